/- What the texts of package resolve stand on, of the packages ir and pick (part 4). -/
import Derived.Test.YtjldddpchiaalaaHU2
namespace Go.Proofs.Ytjldddpchiaalaa
open Go.RowKit
def tcells (k a t e : Int) (vl vm : Value) : Array Value := #[.int .i64 k, .int .i64 a, .int .i64 t, vl, .int .i64 e, vm]
theorem whole_next {U U' : World} {g : Nat} {t : TypeId} {cs : Array Value} (h : Whole U g t cs) (hb : Below U.heap.size U U') : Whole U' g t cs := (hb.block _ h.lt).trans h
theorem whole_other {U : World} {g : Nat} {t : TypeId} {cs : Array Value} (h : Whole U g t cs) (p : Addr) (v : Value) (hp : g ≠ p.block) : Whole (U.setCell p v) g t cs := (Below.heap_setCell U p v g hp).trans h
theorem below_set {W U : World} {n : Nat} (hb : Below n W U) (p : Addr) (v : Value) (h : n ≤ p.block) : Below n W (U.setCell p v) := hb.setCell h v
theorem below_alloc {W U : World} {n : Nat} (hb : Below n W U) (hn : n ≤ U.heap.size) (o : Obj) : Below n W (U.alloc o) := hb.trans ((balloc (Below.refl U.heap.size U) o).mono hn)
theorem below_then {W U V : World} {n : Nat} (hb : Below n W U) (hn : n ≤ U.heap.size) (h : Below U.heap.size U V) : Below n W V := hb.trans (h.mono hn)
/-- the end's fields and how many values there are, in blocks of their own -/
def EndAt (W : World) (k a t e : Int) (vl vm : Value) (n : Int) (wx : World) (X Y : Nat) : Prop :=
  Whole wx X 72 (tcells k a t e vl vm) ∧ Whole wx Y 3 #[.int .i64 n] ∧ Below W.heap.size W wx
set_option maxRecDepth 100000 in
set_option maxHeartbeats 16000000 in
theorem rightEnd_any (all : List Bk) (p k a t e n : Int) (l m : List Int) (Ai Al Am C : Option Addr) (ni ci nl cl nm cm na ca : Nat) (w : World) (hw : wrap64 (p + ni) = n)
    (hna : all.length = na) (hnl : l.length = nl) (hnm : m.length = nm) (hc : na ≤ 9223372036854775807) (hl9 : nl ≤ 9223372036854775807) (hm9 : nm ≤ 9223372036854775807)
    (hS : Blocks w (.slice C na ca) all) (hl : Ints w (.slice Al nl cl) l) (hm : Ints w (.slice Am nm cm) m) :
    Calls Try.prog 82 #[.agg #[.int .i64 p, .slice Ai ni ci, .int .i64 k, .int .i64 a, .int .i64 t, .slice Al nl cl, .int .i64 e, .slice Am nm cm], .slice C na ca] w fun r w' => r = .returned (.bool (endB all n ⟨k, a, t, l, e, m⟩)) ∧ Below w.heap.size w w' := by
  have HV := Lib.hid (fun (W : World) => values_any p k a t e Ai ni ci (.slice Al nl cl) (.slice Am nm cm) W)
  rw [hw] at HV
  have HGT := Lib.hid (fun (Y : Nat) (U : World) (hb : Below w.heap.size w U) (hB : U.cell? ⟨w.heap.size + 1, 0, none⟩ = some (.slice C na ca)) (hN : U.cell? ⟨Y, 0, none⟩ = some (.int .i64 n)) => goes_any all n t l (w.heap.size + 1) Y C Al ca cl U (by rw [hna]; exact hB) hN (by omega) (by rw [hna]; exact hS.next hb) (by rw [hnl]; exact hl.next hb) (by omega))
  have HGE := Lib.hid (fun (Y : Nat) (U : World) (hb : Below w.heap.size w U) (hB : U.cell? ⟨w.heap.size + 1, 0, none⟩ = some (.slice C na ca)) (hN : U.cell? ⟨Y, 0, none⟩ = some (.int .i64 n)) => goes_any all n e m (w.heap.size + 1) Y C Am ca cm U (by rw [hna]; exact hB) hN (by omega) (by rw [hna]; exact hS.next hb) (by rw [hnm]; exact hm.next hb) (by omega))
  rw [hnl] at HGT
  rw [hnm] at HGE
  have HAM := Lib.hid (fun (U : World) => among_any n [a] (some ⟨U.heap.size, 0, none⟩) 1 1 (U.alloc (.cells #[.int .i64 a] 3)) (one_int U a) (by omega))
  have HLN := Lib.hid (show decide (l = []) = ((nl : Int) == 0) by rw [← hnl]; cases l <;> simp; omega)
  have HMN := Lib.hid (show decide (m = []) = ((nm : Int) == 0) by rw [← hnm]; cases m <;> simp; omega)
  clear hw hna hnl hnm hc hl9 hm9 hS hl hm
  go_enter Try.func82, Try.ntmps82
  go_upto_region 1 with fail
  obtain ⟨W, hW⟩ : ∃ W, W = ((w.alloc (.cells #[.int .i64 p, .slice Ai ni ci, .int .i64 k, .int .i64 a, .int .i64 t, .slice Al nl cl, .int .i64 e, .slice Am nm cm] 74)).alloc (.cells #[.slice C na ca] 58)) := ⟨_, rfl⟩
  have HWB := Lib.hid (show Whole W w.heap.size 74 #[.int .i64 p, .slice Ai ni ci, .int .i64 k, .int .i64 a, .int .i64 t, .slice Al nl cl, .int .i64 e, .slice Am nm cm] ∧ Whole W (w.heap.size + 1) 58 #[.slice C na ca] ∧ Below w.heap.size w W ∧ W.heap.size = w.heap.size + 2 by
    rw [hW]
    have e := heap_alloc_new (w.alloc (.cells #[.int .i64 p, .slice Ai ni ci, .int .i64 k, .int .i64 a, .int .i64 t, .slice Al nl cl, .int .i64 e, .slice Am nm cm] 74)) (.cells #[.slice C na ca] 58)
    rw [World.size_alloc] at e
    exact ⟨whole_next (heap_alloc_new w _) (balloc (Below.refl _ _) _), e, balloc (balloc (Below.refl _ w) _) _, by simp⟩)
  have HSW := Lib.hid (fun (U : World) (hb : Below W.heap.size W U) => (show U.cell? ⟨w.heap.size, 0, none⟩ = some (.int .i64 p) ∧ U.cell? ⟨w.heap.size, 1, none⟩ = some (.slice Ai ni ci) ∧ U.cell? ⟨w.heap.size, 2, none⟩ = some (.int .i64 k) ∧ U.cell? ⟨w.heap.size, 3, none⟩ = some (.int .i64 a) ∧ U.cell? ⟨w.heap.size, 4, none⟩ = some (.int .i64 t) ∧ U.cell? ⟨w.heap.size, 5, none⟩ = some (.slice Al nl cl) ∧ U.cell? ⟨w.heap.size, 6, none⟩ = some (.int .i64 e) ∧ U.cell? ⟨w.heap.size, 7, none⟩ = some (.slice Am nm cm) from by
    have h := (hb.block w.heap.size (HWB.out.1.lt)).trans HWB.out.1
    exact ⟨Whole.cell h 0, Whole.cell h 1, Whole.cell h 2, Whole.cell h 3, Whole.cell h 4, Whole.cell h 5, Whole.cell h 6, Whole.cell h 7⟩))
  rw [← hW]
  clear hW
  go_cut [5, 6] from 8 to 11 (fun v5 v6 wx => ∃ X Y, v5 = .pointer (some ⟨X, 0, none⟩) ∧ v6 = .pointer (some ⟨Y, 0, none⟩) ∧ EndAt W k a t e (.slice Al nl cl) (.slice Am nm cm) n wx X Y)
  case first =>
    have hb0 := And.intro ((Below.refl W.heap.size W).drew) (show W.heap.size ≤ W.drew.heap.size from Nat.le_refl _)
    refine wp_region_held_drew (S := (fun U => U.cell? ⟨w.heap.size, 0, none⟩ = some (.int .i64 p) ∧ U.cell? ⟨w.heap.size, 1, none⟩ = some (.slice Ai ni ci) ∧ U.cell? ⟨w.heap.size, 2, none⟩ = some (.int .i64 k) ∧ U.cell? ⟨w.heap.size, 3, none⟩ = some (.int .i64 a) ∧ U.cell? ⟨w.heap.size, 4, none⟩ = some (.int .i64 t) ∧ U.cell? ⟨w.heap.size, 5, none⟩ = some (.slice Al nl cl) ∧ U.cell? ⟨w.heap.size, 6, none⟩ = some (.int .i64 e) ∧ U.cell? ⟨w.heap.size, 7, none⟩ = some (.slice Am nm cm))) (by kernel_rfl) (HSW.out _ hb0.1) (fun hHeld => ?_)
    generalize W.drew = u0 at *
    refine wpAnyH_take (i := 0) (v := ?_) rfl (by kernel_rfl) (by kernel_rfl) (by kernel_rfl) (fun _ _ _ h => h) (Or.inl ⟨by rfl, ?_⟩) (by assumption) ?_
    rotate_left
    · intro W' hSw; (try dsimp only at hSw); go_simp; try (with_reducible rfl)
    (try simp only [Act.put])
    refine wpAnyH_take (i := 1) (v := ?_) rfl (by kernel_rfl) (by kernel_rfl) (by kernel_rfl) (fun _ _ _ h => h) (Or.inl ⟨by rfl, ?_⟩) (by assumption) ?_
    rotate_left
    · intro W' hSw; (try dsimp only at hSw); go_simp; try (with_reducible rfl)
    (try simp only [Act.put])
    refine wpAnyH_take (i := 2) (v := ?_) rfl (by kernel_rfl) (by kernel_rfl) (by kernel_rfl) (fun _ _ _ h => h) (Or.inl ⟨by rfl, ?_⟩) (by assumption) ?_
    rotate_left
    · intro W' hSw; (try dsimp only at hSw); go_simp; try (with_reducible rfl)
    (try simp only [Act.put])
    refine wpAnyH_ready (rs := [3, 4, 5]) (by kernel_rfl) (by simp) ?_
    refine AllReadyH.cons rfl (fun K hK => ?_) (AllReadyH.cons rfl (fun K hK => ?_) (AllReadyH.cons rfl (fun K hK => ?_) AllReadyH.nil))
    · go_simp
      refine Calls.mono (HV.out _) ?_
      rintro r u1 ⟨rfl, hc⟩
      have qhb1 := below_then hb0.1 hb0.2 hc
      have hb1 := And.intro qhb1 (show W.heap.size ≤ u1.heap.size from qhb1.size)
      refine hK.out _ _ (HSW.out _ qhb1) (fun hHeld => ?_)
      clear hK K
      clear hc
      (try simp only [Act.put])
      refine wpAnyH_ready (rs := [4, 5]) (by kernel_rfl) (by simp) ?_
      refine AllReadyH.cons rfl (fun K hK => ?_) (AllReadyH.cons rfl (fun K hK => ?_) AllReadyH.nil)
      · go_simp
        have qhb2 := below_alloc hb1.1 hb1.2 (.cells #[.int .i64 0, .int .i64 0, .int .i64 0, .slice none 0 0, .int .i64 0, .slice none 0 0] 72)
        have hb2 := And.intro qhb2 (show W.heap.size ≤ (u1.alloc (.cells #[.int .i64 0, .int .i64 0, .int .i64 0, .slice none 0 0, .int .i64 0, .slice none 0 0] 72)).heap.size from qhb2.size)
        refine hK.out _ _ (HSW.out _ qhb2) (fun hHeld => ?_)
        clear hK K
        have HX := (heap_alloc_new u1 (.cells #[.int .i64 0, .int .i64 0, .int .i64 0, .slice none 0 0, .int .i64 0, .slice none 0 0] 72) : Whole _ _ _ _)
        have hlX := hb1.2
        generalize u1.alloc (.cells #[.int .i64 0, .int .i64 0, .int .i64 0, .slice none 0 0, .int .i64 0, .slice none 0 0] 72) = u2 at *
        generalize u1.heap.size = X at *
        (try simp only [Act.put])
        refine wpAnyH_ready (rs := [5]) (by kernel_rfl) (by simp) ?_
        refine AllReadyH.cons rfl (fun K hK => ?_) AllReadyH.nil
        · go_simp
          have qhb3 := below_alloc hb2.1 hb2.2 (.cells #[.int .i64 0] 3)
          have hb3 := And.intro qhb3 (show W.heap.size ≤ (u2.alloc (.cells #[.int .i64 0] 3)).heap.size from qhb3.size)
          refine hK.out _ _ (HSW.out _ qhb3) (fun hHeld => ?_)
          clear hK K
          have hxy : X ≠ u2.heap.size := Nat.ne_of_lt (Whole.lt HX)
          have HX := whole_next HX (balloc (Below.refl _ _) (.cells #[.int .i64 0] 3))
          have HY := (heap_alloc_new u2 (.cells #[.int .i64 0] 3) : Whole _ _ _ _)
          have hlY := hb2.2
          generalize u2.alloc (.cells #[.int .i64 0] 3) = u3 at *
          generalize u2.heap.size = Y at *
          (try simp only [Act.put])
          have x0 := Whole.cell HX 0
          have x1 := Whole.cell HX 1
          have x2 := Whole.cell HX 2
          have x3 := Whole.cell HX 3
          have x4 := Whole.cell HX 4
          have x5 := Whole.cell HX 5
          have xf := Whole.free HX
          have y0 := Whole.cell HY 0
          have yf := Whole.free HY
          have hyx := Ne.symm hxy
          simp only [List.getElem?_toArray, List.getElem?_cons_zero, List.getElem?_cons_succ] at x0 x1 x2 x3 x4 x5 y0
          refine wpAnyH_ready (rs := [6]) (by kernel_rfl) (by simp) ?_
          refine AllReadyH.cons rfl (fun K hK => ?_) AllReadyH.nil
          go_simp
          have qb := (below_set (below_set (below_set (below_set (below_set (below_set hb3.1 ⟨X, 0, none⟩ (.int .i64 k) hlX) ⟨X, 1, none⟩ (.int .i64 a) hlX) ⟨X, 2, none⟩ (.int .i64 t) hlX) ⟨X, 3, none⟩ (.slice Al nl cl) hlX) ⟨X, 4, none⟩ (.int .i64 e) hlX) ⟨X, 5, none⟩ (.slice Am nm cm) hlX)
          refine hK.out _ _ (HSW.out _ qb) (fun hHeld => ?_)
          clear hK K x0 x1 x2 x3 x4 x5 xf y0 yf
          have HX6 := (Whole.put (Whole.put (Whole.put (Whole.put (Whole.put (Whole.put HX 0 (.int .i64 k)) 1 (.int .i64 a)) 2 (.int .i64 t)) 3 (.slice Al nl cl)) 4 (.int .i64 e)) 5 (.slice Am nm cm))
          have HY6 := (whole_other (whole_other (whole_other (whole_other (whole_other (whole_other HY ⟨X, 0, none⟩ (.int .i64 k) hyx) ⟨X, 1, none⟩ (.int .i64 a) hyx) ⟨X, 2, none⟩ (.int .i64 t) hyx) ⟨X, 3, none⟩ (.slice Al nl cl) hyx) ⟨X, 4, none⟩ (.int .i64 e) hyx) ⟨X, 5, none⟩ (.slice Am nm cm) hyx)
          have HX7 := (HX6 : Whole _ X 72 (tcells k a t e (.slice Al nl cl) (.slice Am nm cm)))
          clear HX6 HX HY
          generalize ((((((u3.setCell ⟨X, 0, none⟩ (.int .i64 k)).setCell ⟨X, 1, none⟩ (.int .i64 a)).setCell ⟨X, 2, none⟩ (.int .i64 t)).setCell ⟨X, 3, none⟩ (.slice Al nl cl)).setCell ⟨X, 4, none⟩ (.int .i64 e)).setCell ⟨X, 5, none⟩ (.slice Am nm cm)) = V at *
          have y0 := Whole.cell HY6 0
          have yf := Whole.free HY6
          simp only [List.getElem?_toArray, List.getElem?_cons_zero] at y0
          (try simp only [Act.put])
          refine wpAnyH_ready (rs := [7]) (by kernel_rfl) (by simp) ?_
          refine AllReadyH.cons rfl (fun K hK => ?_) AllReadyH.nil
          go_simp
          have qc := below_set qb ⟨Y, 0, none⟩ (.int .i64 n) hlY
          refine hK.out _ _ (HSW.out _ qc) (fun hHeld => ?_)
          clear hK K y0 yf
          have HX8 := whole_other HX7 ⟨Y, 0, none⟩ (.int .i64 n) hxy
          have HY8 := (Whole.put HY6 0 (.int .i64 n) : Whole _ Y 3 #[.int .i64 n])
          (try simp only [Act.put])
          refine wpAnyH_done (by kernel_rfl) ?_ _
          go_wp2_with fail
          go_meet
          case rel => exact ⟨X, Y, rfl, rfl, HX8, HY8, qc⟩
      · go_simp
        have qhb2 := below_alloc hb1.1 hb1.2 (.cells #[.int .i64 0] 3)
        have hb2 := And.intro qhb2 (show W.heap.size ≤ (u1.alloc (.cells #[.int .i64 0] 3)).heap.size from qhb2.size)
        refine hK.out _ _ (HSW.out _ qhb2) (fun hHeld => ?_)
        clear hK K
        have HY := (heap_alloc_new u1 (.cells #[.int .i64 0] 3) : Whole _ _ _ _)
        have hlY := hb1.2
        generalize u1.alloc (.cells #[.int .i64 0] 3) = u2 at *
        generalize u1.heap.size = Y at *
        (try simp only [Act.put])
        refine wpAnyH_ready (rs := [4]) (by kernel_rfl) (by simp) ?_
        refine AllReadyH.cons rfl (fun K hK => ?_) AllReadyH.nil
        · go_simp
          have qhb3 := below_alloc hb2.1 hb2.2 (.cells #[.int .i64 0, .int .i64 0, .int .i64 0, .slice none 0 0, .int .i64 0, .slice none 0 0] 72)
          have hb3 := And.intro qhb3 (show W.heap.size ≤ (u2.alloc (.cells #[.int .i64 0, .int .i64 0, .int .i64 0, .slice none 0 0, .int .i64 0, .slice none 0 0] 72)).heap.size from qhb3.size)
          refine hK.out _ _ (HSW.out _ qhb3) (fun hHeld => ?_)
          clear hK K
          have hxy : u2.heap.size ≠ Y := Nat.ne_of_gt (Whole.lt HY)
          have HY := whole_next HY (balloc (Below.refl _ _) (.cells #[.int .i64 0, .int .i64 0, .int .i64 0, .slice none 0 0, .int .i64 0, .slice none 0 0] 72))
          have HX := (heap_alloc_new u2 (.cells #[.int .i64 0, .int .i64 0, .int .i64 0, .slice none 0 0, .int .i64 0, .slice none 0 0] 72) : Whole _ _ _ _)
          have hlX := hb2.2
          generalize u2.alloc (.cells #[.int .i64 0, .int .i64 0, .int .i64 0, .slice none 0 0, .int .i64 0, .slice none 0 0] 72) = u3 at *
          generalize u2.heap.size = X at *
          (try simp only [Act.put])
          have x0 := Whole.cell HX 0
          have x1 := Whole.cell HX 1
          have x2 := Whole.cell HX 2
          have x3 := Whole.cell HX 3
          have x4 := Whole.cell HX 4
          have x5 := Whole.cell HX 5
          have xf := Whole.free HX
          have y0 := Whole.cell HY 0
          have yf := Whole.free HY
          have hyx := Ne.symm hxy
          simp only [List.getElem?_toArray, List.getElem?_cons_zero, List.getElem?_cons_succ] at x0 x1 x2 x3 x4 x5 y0
          refine wpAnyH_ready (rs := [6]) (by kernel_rfl) (by simp) ?_
          refine AllReadyH.cons rfl (fun K hK => ?_) AllReadyH.nil
          go_simp
          have qb := (below_set (below_set (below_set (below_set (below_set (below_set hb3.1 ⟨X, 0, none⟩ (.int .i64 k) hlX) ⟨X, 1, none⟩ (.int .i64 a) hlX) ⟨X, 2, none⟩ (.int .i64 t) hlX) ⟨X, 3, none⟩ (.slice Al nl cl) hlX) ⟨X, 4, none⟩ (.int .i64 e) hlX) ⟨X, 5, none⟩ (.slice Am nm cm) hlX)
          refine hK.out _ _ (HSW.out _ qb) (fun hHeld => ?_)
          clear hK K x0 x1 x2 x3 x4 x5 xf y0 yf
          have HX6 := (Whole.put (Whole.put (Whole.put (Whole.put (Whole.put (Whole.put HX 0 (.int .i64 k)) 1 (.int .i64 a)) 2 (.int .i64 t)) 3 (.slice Al nl cl)) 4 (.int .i64 e)) 5 (.slice Am nm cm))
          have HY6 := (whole_other (whole_other (whole_other (whole_other (whole_other (whole_other HY ⟨X, 0, none⟩ (.int .i64 k) hyx) ⟨X, 1, none⟩ (.int .i64 a) hyx) ⟨X, 2, none⟩ (.int .i64 t) hyx) ⟨X, 3, none⟩ (.slice Al nl cl) hyx) ⟨X, 4, none⟩ (.int .i64 e) hyx) ⟨X, 5, none⟩ (.slice Am nm cm) hyx)
          have HX7 := (HX6 : Whole _ X 72 (tcells k a t e (.slice Al nl cl) (.slice Am nm cm)))
          clear HX6 HX HY
          generalize ((((((u3.setCell ⟨X, 0, none⟩ (.int .i64 k)).setCell ⟨X, 1, none⟩ (.int .i64 a)).setCell ⟨X, 2, none⟩ (.int .i64 t)).setCell ⟨X, 3, none⟩ (.slice Al nl cl)).setCell ⟨X, 4, none⟩ (.int .i64 e)).setCell ⟨X, 5, none⟩ (.slice Am nm cm)) = V at *
          have y0 := Whole.cell HY6 0
          have yf := Whole.free HY6
          simp only [List.getElem?_toArray, List.getElem?_cons_zero] at y0
          (try simp only [Act.put])
          refine wpAnyH_ready (rs := [7]) (by kernel_rfl) (by simp) ?_
          refine AllReadyH.cons rfl (fun K hK => ?_) AllReadyH.nil
          go_simp
          have qc := below_set qb ⟨Y, 0, none⟩ (.int .i64 n) hlY
          refine hK.out _ _ (HSW.out _ qc) (fun hHeld => ?_)
          clear hK K y0 yf
          have HX8 := whole_other HX7 ⟨Y, 0, none⟩ (.int .i64 n) hxy
          have HY8 := (Whole.put HY6 0 (.int .i64 n) : Whole _ Y 3 #[.int .i64 n])
          (try simp only [Act.put])
          refine wpAnyH_done (by kernel_rfl) ?_ _
          go_wp2_with fail
          go_meet
          case rel => exact ⟨X, Y, rfl, rfl, HX8, HY8, qc⟩
    · go_simp
      have qhb1 := below_alloc hb0.1 hb0.2 (.cells #[.int .i64 0, .int .i64 0, .int .i64 0, .slice none 0 0, .int .i64 0, .slice none 0 0] 72)
      have hb1 := And.intro qhb1 (show W.heap.size ≤ (u0.alloc (.cells #[.int .i64 0, .int .i64 0, .int .i64 0, .slice none 0 0, .int .i64 0, .slice none 0 0] 72)).heap.size from qhb1.size)
      refine hK.out _ _ (HSW.out _ qhb1) (fun hHeld => ?_)
      clear hK K
      have HX := (heap_alloc_new u0 (.cells #[.int .i64 0, .int .i64 0, .int .i64 0, .slice none 0 0, .int .i64 0, .slice none 0 0] 72) : Whole _ _ _ _)
      have hlX := hb0.2
      generalize u0.alloc (.cells #[.int .i64 0, .int .i64 0, .int .i64 0, .slice none 0 0, .int .i64 0, .slice none 0 0] 72) = u1 at *
      generalize u0.heap.size = X at *
      (try simp only [Act.put])
      refine wpAnyH_ready (rs := [3, 5]) (by kernel_rfl) (by simp) ?_
      refine AllReadyH.cons rfl (fun K hK => ?_) (AllReadyH.cons rfl (fun K hK => ?_) AllReadyH.nil)
      · go_simp
        refine Calls.mono (HV.out _) ?_
        rintro r u2 ⟨rfl, hc⟩
        have qhb2 := below_then hb1.1 hb1.2 hc
        have hb2 := And.intro qhb2 (show W.heap.size ≤ u2.heap.size from qhb2.size)
        refine hK.out _ _ (HSW.out _ qhb2) (fun hHeld => ?_)
        clear hK K
        have HX := whole_next HX hc
        clear hc
        (try simp only [Act.put])
        refine wpAnyH_ready (rs := [5]) (by kernel_rfl) (by simp) ?_
        refine AllReadyH.cons rfl (fun K hK => ?_) AllReadyH.nil
        · go_simp
          have qhb3 := below_alloc hb2.1 hb2.2 (.cells #[.int .i64 0] 3)
          have hb3 := And.intro qhb3 (show W.heap.size ≤ (u2.alloc (.cells #[.int .i64 0] 3)).heap.size from qhb3.size)
          refine hK.out _ _ (HSW.out _ qhb3) (fun hHeld => ?_)
          clear hK K
          have hxy : X ≠ u2.heap.size := Nat.ne_of_lt (Whole.lt HX)
          have HX := whole_next HX (balloc (Below.refl _ _) (.cells #[.int .i64 0] 3))
          have HY := (heap_alloc_new u2 (.cells #[.int .i64 0] 3) : Whole _ _ _ _)
          have hlY := hb2.2
          generalize u2.alloc (.cells #[.int .i64 0] 3) = u3 at *
          generalize u2.heap.size = Y at *
          (try simp only [Act.put])
          have x0 := Whole.cell HX 0
          have x1 := Whole.cell HX 1
          have x2 := Whole.cell HX 2
          have x3 := Whole.cell HX 3
          have x4 := Whole.cell HX 4
          have x5 := Whole.cell HX 5
          have xf := Whole.free HX
          have y0 := Whole.cell HY 0
          have yf := Whole.free HY
          have hyx := Ne.symm hxy
          simp only [List.getElem?_toArray, List.getElem?_cons_zero, List.getElem?_cons_succ] at x0 x1 x2 x3 x4 x5 y0
          refine wpAnyH_ready (rs := [6]) (by kernel_rfl) (by simp) ?_
          refine AllReadyH.cons rfl (fun K hK => ?_) AllReadyH.nil
          go_simp
          have qb := (below_set (below_set (below_set (below_set (below_set (below_set hb3.1 ⟨X, 0, none⟩ (.int .i64 k) hlX) ⟨X, 1, none⟩ (.int .i64 a) hlX) ⟨X, 2, none⟩ (.int .i64 t) hlX) ⟨X, 3, none⟩ (.slice Al nl cl) hlX) ⟨X, 4, none⟩ (.int .i64 e) hlX) ⟨X, 5, none⟩ (.slice Am nm cm) hlX)
          refine hK.out _ _ (HSW.out _ qb) (fun hHeld => ?_)
          clear hK K x0 x1 x2 x3 x4 x5 xf y0 yf
          have HX6 := (Whole.put (Whole.put (Whole.put (Whole.put (Whole.put (Whole.put HX 0 (.int .i64 k)) 1 (.int .i64 a)) 2 (.int .i64 t)) 3 (.slice Al nl cl)) 4 (.int .i64 e)) 5 (.slice Am nm cm))
          have HY6 := (whole_other (whole_other (whole_other (whole_other (whole_other (whole_other HY ⟨X, 0, none⟩ (.int .i64 k) hyx) ⟨X, 1, none⟩ (.int .i64 a) hyx) ⟨X, 2, none⟩ (.int .i64 t) hyx) ⟨X, 3, none⟩ (.slice Al nl cl) hyx) ⟨X, 4, none⟩ (.int .i64 e) hyx) ⟨X, 5, none⟩ (.slice Am nm cm) hyx)
          have HX7 := (HX6 : Whole _ X 72 (tcells k a t e (.slice Al nl cl) (.slice Am nm cm)))
          clear HX6 HX HY
          generalize ((((((u3.setCell ⟨X, 0, none⟩ (.int .i64 k)).setCell ⟨X, 1, none⟩ (.int .i64 a)).setCell ⟨X, 2, none⟩ (.int .i64 t)).setCell ⟨X, 3, none⟩ (.slice Al nl cl)).setCell ⟨X, 4, none⟩ (.int .i64 e)).setCell ⟨X, 5, none⟩ (.slice Am nm cm)) = V at *
          have y0 := Whole.cell HY6 0
          have yf := Whole.free HY6
          simp only [List.getElem?_toArray, List.getElem?_cons_zero] at y0
          (try simp only [Act.put])
          refine wpAnyH_ready (rs := [7]) (by kernel_rfl) (by simp) ?_
          refine AllReadyH.cons rfl (fun K hK => ?_) AllReadyH.nil
          go_simp
          have qc := below_set qb ⟨Y, 0, none⟩ (.int .i64 n) hlY
          refine hK.out _ _ (HSW.out _ qc) (fun hHeld => ?_)
          clear hK K y0 yf
          have HX8 := whole_other HX7 ⟨Y, 0, none⟩ (.int .i64 n) hxy
          have HY8 := (Whole.put HY6 0 (.int .i64 n) : Whole _ Y 3 #[.int .i64 n])
          (try simp only [Act.put])
          refine wpAnyH_done (by kernel_rfl) ?_ _
          go_wp2_with fail
          go_meet
          case rel => exact ⟨X, Y, rfl, rfl, HX8, HY8, qc⟩
      · go_simp
        have qhb2 := below_alloc hb1.1 hb1.2 (.cells #[.int .i64 0] 3)
        have hb2 := And.intro qhb2 (show W.heap.size ≤ (u1.alloc (.cells #[.int .i64 0] 3)).heap.size from qhb2.size)
        refine hK.out _ _ (HSW.out _ qhb2) (fun hHeld => ?_)
        clear hK K
        have hxy : X ≠ u1.heap.size := Nat.ne_of_lt (Whole.lt HX)
        have HX := whole_next HX (balloc (Below.refl _ _) (.cells #[.int .i64 0] 3))
        have HY := (heap_alloc_new u1 (.cells #[.int .i64 0] 3) : Whole _ _ _ _)
        have hlY := hb1.2
        generalize u1.alloc (.cells #[.int .i64 0] 3) = u2 at *
        generalize u1.heap.size = Y at *
        (try simp only [Act.put])
        refine wpAnyH_ready (rs := [3]) (by kernel_rfl) (by simp) ?_
        refine AllReadyH.cons rfl (fun K hK => ?_) AllReadyH.nil
        · go_simp
          refine Calls.mono (HV.out _) ?_
          rintro r u3 ⟨rfl, hc⟩
          have qhb3 := below_then hb2.1 hb2.2 hc
          have hb3 := And.intro qhb3 (show W.heap.size ≤ u3.heap.size from qhb3.size)
          refine hK.out _ _ (HSW.out _ qhb3) (fun hHeld => ?_)
          clear hK K
          have HX := whole_next HX hc
          have HY := whole_next HY hc
          clear hc
          (try simp only [Act.put])
          have x0 := Whole.cell HX 0
          have x1 := Whole.cell HX 1
          have x2 := Whole.cell HX 2
          have x3 := Whole.cell HX 3
          have x4 := Whole.cell HX 4
          have x5 := Whole.cell HX 5
          have xf := Whole.free HX
          have y0 := Whole.cell HY 0
          have yf := Whole.free HY
          have hyx := Ne.symm hxy
          simp only [List.getElem?_toArray, List.getElem?_cons_zero, List.getElem?_cons_succ] at x0 x1 x2 x3 x4 x5 y0
          refine wpAnyH_ready (rs := [6]) (by kernel_rfl) (by simp) ?_
          refine AllReadyH.cons rfl (fun K hK => ?_) AllReadyH.nil
          go_simp
          have qb := (below_set (below_set (below_set (below_set (below_set (below_set hb3.1 ⟨X, 0, none⟩ (.int .i64 k) hlX) ⟨X, 1, none⟩ (.int .i64 a) hlX) ⟨X, 2, none⟩ (.int .i64 t) hlX) ⟨X, 3, none⟩ (.slice Al nl cl) hlX) ⟨X, 4, none⟩ (.int .i64 e) hlX) ⟨X, 5, none⟩ (.slice Am nm cm) hlX)
          refine hK.out _ _ (HSW.out _ qb) (fun hHeld => ?_)
          clear hK K x0 x1 x2 x3 x4 x5 xf y0 yf
          have HX6 := (Whole.put (Whole.put (Whole.put (Whole.put (Whole.put (Whole.put HX 0 (.int .i64 k)) 1 (.int .i64 a)) 2 (.int .i64 t)) 3 (.slice Al nl cl)) 4 (.int .i64 e)) 5 (.slice Am nm cm))
          have HY6 := (whole_other (whole_other (whole_other (whole_other (whole_other (whole_other HY ⟨X, 0, none⟩ (.int .i64 k) hyx) ⟨X, 1, none⟩ (.int .i64 a) hyx) ⟨X, 2, none⟩ (.int .i64 t) hyx) ⟨X, 3, none⟩ (.slice Al nl cl) hyx) ⟨X, 4, none⟩ (.int .i64 e) hyx) ⟨X, 5, none⟩ (.slice Am nm cm) hyx)
          have HX7 := (HX6 : Whole _ X 72 (tcells k a t e (.slice Al nl cl) (.slice Am nm cm)))
          clear HX6 HX HY
          generalize ((((((u3.setCell ⟨X, 0, none⟩ (.int .i64 k)).setCell ⟨X, 1, none⟩ (.int .i64 a)).setCell ⟨X, 2, none⟩ (.int .i64 t)).setCell ⟨X, 3, none⟩ (.slice Al nl cl)).setCell ⟨X, 4, none⟩ (.int .i64 e)).setCell ⟨X, 5, none⟩ (.slice Am nm cm)) = V at *
          have y0 := Whole.cell HY6 0
          have yf := Whole.free HY6
          simp only [List.getElem?_toArray, List.getElem?_cons_zero] at y0
          (try simp only [Act.put])
          refine wpAnyH_ready (rs := [7]) (by kernel_rfl) (by simp) ?_
          refine AllReadyH.cons rfl (fun K hK => ?_) AllReadyH.nil
          go_simp
          have qc := below_set qb ⟨Y, 0, none⟩ (.int .i64 n) hlY
          refine hK.out _ _ (HSW.out _ qc) (fun hHeld => ?_)
          clear hK K y0 yf
          have HX8 := whole_other HX7 ⟨Y, 0, none⟩ (.int .i64 n) hxy
          have HY8 := (Whole.put HY6 0 (.int .i64 n) : Whole _ Y 3 #[.int .i64 n])
          (try simp only [Act.put])
          refine wpAnyH_done (by kernel_rfl) ?_ _
          go_wp2_with fail
          go_meet
          case rel => exact ⟨X, Y, rfl, rfl, HX8, HY8, qc⟩
    · go_simp
      have qhb1 := below_alloc hb0.1 hb0.2 (.cells #[.int .i64 0] 3)
      have hb1 := And.intro qhb1 (show W.heap.size ≤ (u0.alloc (.cells #[.int .i64 0] 3)).heap.size from qhb1.size)
      refine hK.out _ _ (HSW.out _ qhb1) (fun hHeld => ?_)
      clear hK K
      have HY := (heap_alloc_new u0 (.cells #[.int .i64 0] 3) : Whole _ _ _ _)
      have hlY := hb0.2
      generalize u0.alloc (.cells #[.int .i64 0] 3) = u1 at *
      generalize u0.heap.size = Y at *
      (try simp only [Act.put])
      refine wpAnyH_ready (rs := [3, 4]) (by kernel_rfl) (by simp) ?_
      refine AllReadyH.cons rfl (fun K hK => ?_) (AllReadyH.cons rfl (fun K hK => ?_) AllReadyH.nil)
      · go_simp
        refine Calls.mono (HV.out _) ?_
        rintro r u2 ⟨rfl, hc⟩
        have qhb2 := below_then hb1.1 hb1.2 hc
        have hb2 := And.intro qhb2 (show W.heap.size ≤ u2.heap.size from qhb2.size)
        refine hK.out _ _ (HSW.out _ qhb2) (fun hHeld => ?_)
        clear hK K
        have HY := whole_next HY hc
        clear hc
        (try simp only [Act.put])
        refine wpAnyH_ready (rs := [4]) (by kernel_rfl) (by simp) ?_
        refine AllReadyH.cons rfl (fun K hK => ?_) AllReadyH.nil
        · go_simp
          have qhb3 := below_alloc hb2.1 hb2.2 (.cells #[.int .i64 0, .int .i64 0, .int .i64 0, .slice none 0 0, .int .i64 0, .slice none 0 0] 72)
          have hb3 := And.intro qhb3 (show W.heap.size ≤ (u2.alloc (.cells #[.int .i64 0, .int .i64 0, .int .i64 0, .slice none 0 0, .int .i64 0, .slice none 0 0] 72)).heap.size from qhb3.size)
          refine hK.out _ _ (HSW.out _ qhb3) (fun hHeld => ?_)
          clear hK K
          have hxy : u2.heap.size ≠ Y := Nat.ne_of_gt (Whole.lt HY)
          have HY := whole_next HY (balloc (Below.refl _ _) (.cells #[.int .i64 0, .int .i64 0, .int .i64 0, .slice none 0 0, .int .i64 0, .slice none 0 0] 72))
          have HX := (heap_alloc_new u2 (.cells #[.int .i64 0, .int .i64 0, .int .i64 0, .slice none 0 0, .int .i64 0, .slice none 0 0] 72) : Whole _ _ _ _)
          have hlX := hb2.2
          generalize u2.alloc (.cells #[.int .i64 0, .int .i64 0, .int .i64 0, .slice none 0 0, .int .i64 0, .slice none 0 0] 72) = u3 at *
          generalize u2.heap.size = X at *
          (try simp only [Act.put])
          have x0 := Whole.cell HX 0
          have x1 := Whole.cell HX 1
          have x2 := Whole.cell HX 2
          have x3 := Whole.cell HX 3
          have x4 := Whole.cell HX 4
          have x5 := Whole.cell HX 5
          have xf := Whole.free HX
          have y0 := Whole.cell HY 0
          have yf := Whole.free HY
          have hyx := Ne.symm hxy
          simp only [List.getElem?_toArray, List.getElem?_cons_zero, List.getElem?_cons_succ] at x0 x1 x2 x3 x4 x5 y0
          refine wpAnyH_ready (rs := [6]) (by kernel_rfl) (by simp) ?_
          refine AllReadyH.cons rfl (fun K hK => ?_) AllReadyH.nil
          go_simp
          have qb := (below_set (below_set (below_set (below_set (below_set (below_set hb3.1 ⟨X, 0, none⟩ (.int .i64 k) hlX) ⟨X, 1, none⟩ (.int .i64 a) hlX) ⟨X, 2, none⟩ (.int .i64 t) hlX) ⟨X, 3, none⟩ (.slice Al nl cl) hlX) ⟨X, 4, none⟩ (.int .i64 e) hlX) ⟨X, 5, none⟩ (.slice Am nm cm) hlX)
          refine hK.out _ _ (HSW.out _ qb) (fun hHeld => ?_)
          clear hK K x0 x1 x2 x3 x4 x5 xf y0 yf
          have HX6 := (Whole.put (Whole.put (Whole.put (Whole.put (Whole.put (Whole.put HX 0 (.int .i64 k)) 1 (.int .i64 a)) 2 (.int .i64 t)) 3 (.slice Al nl cl)) 4 (.int .i64 e)) 5 (.slice Am nm cm))
          have HY6 := (whole_other (whole_other (whole_other (whole_other (whole_other (whole_other HY ⟨X, 0, none⟩ (.int .i64 k) hyx) ⟨X, 1, none⟩ (.int .i64 a) hyx) ⟨X, 2, none⟩ (.int .i64 t) hyx) ⟨X, 3, none⟩ (.slice Al nl cl) hyx) ⟨X, 4, none⟩ (.int .i64 e) hyx) ⟨X, 5, none⟩ (.slice Am nm cm) hyx)
          have HX7 := (HX6 : Whole _ X 72 (tcells k a t e (.slice Al nl cl) (.slice Am nm cm)))
          clear HX6 HX HY
          generalize ((((((u3.setCell ⟨X, 0, none⟩ (.int .i64 k)).setCell ⟨X, 1, none⟩ (.int .i64 a)).setCell ⟨X, 2, none⟩ (.int .i64 t)).setCell ⟨X, 3, none⟩ (.slice Al nl cl)).setCell ⟨X, 4, none⟩ (.int .i64 e)).setCell ⟨X, 5, none⟩ (.slice Am nm cm)) = V at *
          have y0 := Whole.cell HY6 0
          have yf := Whole.free HY6
          simp only [List.getElem?_toArray, List.getElem?_cons_zero] at y0
          (try simp only [Act.put])
          refine wpAnyH_ready (rs := [7]) (by kernel_rfl) (by simp) ?_
          refine AllReadyH.cons rfl (fun K hK => ?_) AllReadyH.nil
          go_simp
          have qc := below_set qb ⟨Y, 0, none⟩ (.int .i64 n) hlY
          refine hK.out _ _ (HSW.out _ qc) (fun hHeld => ?_)
          clear hK K y0 yf
          have HX8 := whole_other HX7 ⟨Y, 0, none⟩ (.int .i64 n) hxy
          have HY8 := (Whole.put HY6 0 (.int .i64 n) : Whole _ Y 3 #[.int .i64 n])
          (try simp only [Act.put])
          refine wpAnyH_done (by kernel_rfl) ?_ _
          go_wp2_with fail
          go_meet
          case rel => exact ⟨X, Y, rfl, rfl, HX8, HY8, qc⟩
      · go_simp
        have qhb2 := below_alloc hb1.1 hb1.2 (.cells #[.int .i64 0, .int .i64 0, .int .i64 0, .slice none 0 0, .int .i64 0, .slice none 0 0] 72)
        have hb2 := And.intro qhb2 (show W.heap.size ≤ (u1.alloc (.cells #[.int .i64 0, .int .i64 0, .int .i64 0, .slice none 0 0, .int .i64 0, .slice none 0 0] 72)).heap.size from qhb2.size)
        refine hK.out _ _ (HSW.out _ qhb2) (fun hHeld => ?_)
        clear hK K
        have hxy : u1.heap.size ≠ Y := Nat.ne_of_gt (Whole.lt HY)
        have HY := whole_next HY (balloc (Below.refl _ _) (.cells #[.int .i64 0, .int .i64 0, .int .i64 0, .slice none 0 0, .int .i64 0, .slice none 0 0] 72))
        have HX := (heap_alloc_new u1 (.cells #[.int .i64 0, .int .i64 0, .int .i64 0, .slice none 0 0, .int .i64 0, .slice none 0 0] 72) : Whole _ _ _ _)
        have hlX := hb1.2
        generalize u1.alloc (.cells #[.int .i64 0, .int .i64 0, .int .i64 0, .slice none 0 0, .int .i64 0, .slice none 0 0] 72) = u2 at *
        generalize u1.heap.size = X at *
        (try simp only [Act.put])
        refine wpAnyH_ready (rs := [3]) (by kernel_rfl) (by simp) ?_
        refine AllReadyH.cons rfl (fun K hK => ?_) AllReadyH.nil
        · go_simp
          refine Calls.mono (HV.out _) ?_
          rintro r u3 ⟨rfl, hc⟩
          have qhb3 := below_then hb2.1 hb2.2 hc
          have hb3 := And.intro qhb3 (show W.heap.size ≤ u3.heap.size from qhb3.size)
          refine hK.out _ _ (HSW.out _ qhb3) (fun hHeld => ?_)
          clear hK K
          have HX := whole_next HX hc
          have HY := whole_next HY hc
          clear hc
          (try simp only [Act.put])
          have x0 := Whole.cell HX 0
          have x1 := Whole.cell HX 1
          have x2 := Whole.cell HX 2
          have x3 := Whole.cell HX 3
          have x4 := Whole.cell HX 4
          have x5 := Whole.cell HX 5
          have xf := Whole.free HX
          have y0 := Whole.cell HY 0
          have yf := Whole.free HY
          have hyx := Ne.symm hxy
          simp only [List.getElem?_toArray, List.getElem?_cons_zero, List.getElem?_cons_succ] at x0 x1 x2 x3 x4 x5 y0
          refine wpAnyH_ready (rs := [6]) (by kernel_rfl) (by simp) ?_
          refine AllReadyH.cons rfl (fun K hK => ?_) AllReadyH.nil
          go_simp
          have qb := (below_set (below_set (below_set (below_set (below_set (below_set hb3.1 ⟨X, 0, none⟩ (.int .i64 k) hlX) ⟨X, 1, none⟩ (.int .i64 a) hlX) ⟨X, 2, none⟩ (.int .i64 t) hlX) ⟨X, 3, none⟩ (.slice Al nl cl) hlX) ⟨X, 4, none⟩ (.int .i64 e) hlX) ⟨X, 5, none⟩ (.slice Am nm cm) hlX)
          refine hK.out _ _ (HSW.out _ qb) (fun hHeld => ?_)
          clear hK K x0 x1 x2 x3 x4 x5 xf y0 yf
          have HX6 := (Whole.put (Whole.put (Whole.put (Whole.put (Whole.put (Whole.put HX 0 (.int .i64 k)) 1 (.int .i64 a)) 2 (.int .i64 t)) 3 (.slice Al nl cl)) 4 (.int .i64 e)) 5 (.slice Am nm cm))
          have HY6 := (whole_other (whole_other (whole_other (whole_other (whole_other (whole_other HY ⟨X, 0, none⟩ (.int .i64 k) hyx) ⟨X, 1, none⟩ (.int .i64 a) hyx) ⟨X, 2, none⟩ (.int .i64 t) hyx) ⟨X, 3, none⟩ (.slice Al nl cl) hyx) ⟨X, 4, none⟩ (.int .i64 e) hyx) ⟨X, 5, none⟩ (.slice Am nm cm) hyx)
          have HX7 := (HX6 : Whole _ X 72 (tcells k a t e (.slice Al nl cl) (.slice Am nm cm)))
          clear HX6 HX HY
          generalize ((((((u3.setCell ⟨X, 0, none⟩ (.int .i64 k)).setCell ⟨X, 1, none⟩ (.int .i64 a)).setCell ⟨X, 2, none⟩ (.int .i64 t)).setCell ⟨X, 3, none⟩ (.slice Al nl cl)).setCell ⟨X, 4, none⟩ (.int .i64 e)).setCell ⟨X, 5, none⟩ (.slice Am nm cm)) = V at *
          have y0 := Whole.cell HY6 0
          have yf := Whole.free HY6
          simp only [List.getElem?_toArray, List.getElem?_cons_zero] at y0
          (try simp only [Act.put])
          refine wpAnyH_ready (rs := [7]) (by kernel_rfl) (by simp) ?_
          refine AllReadyH.cons rfl (fun K hK => ?_) AllReadyH.nil
          go_simp
          have qc := below_set qb ⟨Y, 0, none⟩ (.int .i64 n) hlY
          refine hK.out _ _ (HSW.out _ qc) (fun hHeld => ?_)
          clear hK K y0 yf
          have HX8 := whole_other HX7 ⟨Y, 0, none⟩ (.int .i64 n) hxy
          have HY8 := (Whole.put HY6 0 (.int .i64 n) : Whole _ Y 3 #[.int .i64 n])
          (try simp only [Act.put])
          refine wpAnyH_done (by kernel_rfl) ?_ _
          go_wp2_with fail
          go_meet
          case rel => exact ⟨X, Y, rfl, rfl, HX8, HY8, qc⟩
  case rest =>
    obtain ⟨X, Y, rfl, rfl, hX, hY, hb⟩ := hcut
    have HB := Lib.hid (show Below w.heap.size w wc from bthen HWB.out.2.2.1 hb)
    have HCE := Lib.hid (fun (U : World) (hu : Below wc.heap.size wc U) => (show (U.cell? ⟨X, 0, none⟩ = some (.int .i64 k) ∧ U.cell? ⟨X, 1, none⟩ = some (.int .i64 a) ∧ U.cell? ⟨X, 2, none⟩ = some (.int .i64 t) ∧ U.cell? ⟨X, 3, none⟩ = some (.slice Al nl cl) ∧ U.cell? ⟨X, 4, none⟩ = some (.int .i64 e) ∧ U.cell? ⟨X, 5, none⟩ = some (.slice Am nm cm)) ∧ U.cell? ⟨Y, 0, none⟩ = some (.int .i64 n) ∧ U.cell? ⟨w.heap.size + 1, 0, none⟩ = some (.slice C na ca) from by
      have h1 := whole_next hX hu
      have h2 := whole_next hY hu
      have h3 := whole_next (whole_next HWB.out.2.1 hb) hu
      exact ⟨⟨Whole.cell h1 0, Whole.cell h1 1, Whole.cell h1 2, Whole.cell h1 3, Whole.cell h1 4, Whole.cell h1 5⟩, Whole.cell h2 0, Whole.cell h3 0⟩))
    have HGT := Lib.hid (fun (U : World) (hu : Below wc.heap.size wc U) => HGT.out Y U (bthen HB.out hu) (HCE.out U hu).2.2 (HCE.out U hu).2.1)
    have HGE := Lib.hid (fun (U : World) (hu : Below wc.heap.size wc U) => HGE.out Y U (bthen HB.out hu) (HCE.out U hu).2.2 (HCE.out U hu).2.1)
    obtain ⟨⟨x0, x1, x2, x3, x4, x5⟩, y0, z0⟩ := HCE.out wc (Below.refl _ _)
    clear hX hY hb HWB HSW HV
    by_cases k1 : k = 1
    · subst k1
      have HE := Lib.hid (show endB all n ⟨1, a, t, l, e, m⟩ = (goesB all n t l && a == 0 && e == 0 && ((nm : Int) == 0)) by unfold endB; simp only [if_true]; rw [HMN.out])
      cases h0 : goesB all n t l with
      | false =>
        rw [h0] at HGT
        go_wp2_with fail
        refine (HGT.out wc (Below.refl _ _)).mono ?_
        rintro r w1 ⟨rfl, hb⟩
        have HB1 := Lib.hid (bthen (Below.refl _ _) hb)
        clear hb x0 x1 x2 x3 x4 x5 y0 z0
        obtain ⟨⟨x0, x1, x2, x3, x4, x5⟩, y0, z0⟩ := HCE.out w1 HB1.out
        go_wp2_with fail
        go_ret
        exact ⟨by rw [HE.out]; simp [h0], bthen HB.out HB1.out⟩
      | true =>
        rw [h0] at HGT
        go_wp2_with fail
        refine (HGT.out wc (Below.refl _ _)).mono ?_
        rintro r w1 ⟨rfl, hb⟩
        have HB1 := Lib.hid (bthen (Below.refl _ _) hb)
        clear hb x0 x1 x2 x3 x4 x5 y0 z0
        obtain ⟨⟨x0, x1, x2, x3, x4, x5⟩, y0, z0⟩ := HCE.out w1 HB1.out
        cases h1 : a == 0 with
        | false =>
          go_wp2_with fail
          go_ret
          exact ⟨by rw [HE.out]; simp [h0, h1], bthen HB.out HB1.out⟩
        | true =>
          cases h2 : e == 0 with
          | false =>
            go_wp2_with fail
            go_ret
            exact ⟨by rw [HE.out]; simp [h0, h1, h2], bthen HB.out HB1.out⟩
          | true =>
            cases h3 : ((nm : Int) == 0) with
            | false =>
              go_wp2_with fail
              go_ret
              exact ⟨by rw [HE.out]; simp [h0, h1, h2, h3], bthen HB.out HB1.out⟩
            | true =>
              go_wp2_with fail
              go_ret
              exact ⟨by rw [HE.out]; simp [h0, h1, h2, h3], bthen HB.out HB1.out⟩
    by_cases k2 : k = 2
    · subst k2
      have HE := Lib.hid (show endB all n ⟨2, a, t, l, e, m⟩ = (amongB n [a] && goesB all n t l && goesB all n e m) by unfold endB; rw [if_neg (by simp), if_pos rfl])
      clear k1
      cases h0 : amongB n [a] with
      | false =>
        rw [h0] at HAM
        go_wp2_with fail
        refine (HAM.out wc).mono ?_
        rintro r w1 ⟨rfl, hb⟩
        have HB1 := Lib.hid (bthen (balloc (Below.refl _ wc) _) hb)
        clear hb x0 x1 x2 x3 x4 x5 y0 z0
        obtain ⟨⟨x0, x1, x2, x3, x4, x5⟩, y0, z0⟩ := HCE.out w1 HB1.out
        go_wp2_with fail
        go_ret
        exact ⟨by rw [HE.out]; simp [h0], bthen HB.out HB1.out⟩
      | true =>
        rw [h0] at HAM
        go_wp2_with fail
        refine (HAM.out wc).mono ?_
        rintro r w1 ⟨rfl, hb⟩
        have HB1 := Lib.hid (bthen (balloc (Below.refl _ wc) _) hb)
        clear hb x0 x1 x2 x3 x4 x5 y0 z0
        obtain ⟨⟨x0, x1, x2, x3, x4, x5⟩, y0, z0⟩ := HCE.out w1 HB1.out
        cases h1 : goesB all n t l with
        | false =>
          rw [h1] at HGT
          go_wp2_with fail
          refine (HGT.out w1 HB1.out).mono ?_
          rintro r w2 ⟨rfl, hb⟩
          have HB2 := Lib.hid (bthen HB1.out hb)
          clear hb x0 x1 x2 x3 x4 x5 y0 z0
          obtain ⟨⟨x0, x1, x2, x3, x4, x5⟩, y0, z0⟩ := HCE.out w2 HB2.out
          go_wp2_with fail
          go_ret
          exact ⟨by rw [HE.out]; simp [h0, h1], bthen HB.out HB2.out⟩
        | true =>
          rw [h1] at HGT
          go_wp2_with fail
          refine (HGT.out w1 HB1.out).mono ?_
          rintro r w2 ⟨rfl, hb⟩
          have HB2 := Lib.hid (bthen HB1.out hb)
          clear hb x0 x1 x2 x3 x4 x5 y0 z0
          obtain ⟨⟨x0, x1, x2, x3, x4, x5⟩, y0, z0⟩ := HCE.out w2 HB2.out
          cases h2 : goesB all n e m with
          | false =>
            rw [h2] at HGE
            go_wp2_with fail
            refine (HGE.out w2 HB2.out).mono ?_
            rintro r w3 ⟨rfl, hb⟩
            have HB3 := Lib.hid (bthen HB2.out hb)
            clear hb x0 x1 x2 x3 x4 x5 y0 z0
            obtain ⟨⟨x0, x1, x2, x3, x4, x5⟩, y0, z0⟩ := HCE.out w3 HB3.out
            go_wp2_with fail
            go_ret
            exact ⟨by rw [HE.out]; simp [h0, h1, h2], bthen HB.out HB3.out⟩
          | true =>
            rw [h2] at HGE
            go_wp2_with fail
            refine (HGE.out w2 HB2.out).mono ?_
            rintro r w3 ⟨rfl, hb⟩
            have HB3 := Lib.hid (bthen HB2.out hb)
            clear hb x0 x1 x2 x3 x4 x5 y0 z0
            obtain ⟨⟨x0, x1, x2, x3, x4, x5⟩, y0, z0⟩ := HCE.out w3 HB3.out
            go_wp2_with fail
            go_ret
            exact ⟨by rw [HE.out]; simp [h0, h1, h2], bthen HB.out HB3.out⟩
    by_cases k3 : k = 3
    · subst k3
      have HE := Lib.hid (show endB all n ⟨3, a, t, l, e, m⟩ = (amongB n [a] && t == 0 && ((nl : Int) == 0) && e == 0 && ((nm : Int) == 0)) by unfold endB; rw [if_neg (by simp), if_neg (by simp), if_pos rfl]; rw [HMN.out, HLN.out])
      clear k1 k2
      cases h0 : amongB n [a] with
      | false =>
        rw [h0] at HAM
        go_wp2_with fail
        refine (HAM.out wc).mono ?_
        rintro r w1 ⟨rfl, hb⟩
        have HB1 := Lib.hid (bthen (balloc (Below.refl _ wc) _) hb)
        clear hb x0 x1 x2 x3 x4 x5 y0 z0
        obtain ⟨⟨x0, x1, x2, x3, x4, x5⟩, y0, z0⟩ := HCE.out w1 HB1.out
        go_wp2_with fail
        go_ret
        exact ⟨by rw [HE.out]; simp [h0], bthen HB.out HB1.out⟩
      | true =>
        rw [h0] at HAM
        go_wp2_with fail
        refine (HAM.out wc).mono ?_
        rintro r w1 ⟨rfl, hb⟩
        have HB1 := Lib.hid (bthen (balloc (Below.refl _ wc) _) hb)
        clear hb x0 x1 x2 x3 x4 x5 y0 z0
        obtain ⟨⟨x0, x1, x2, x3, x4, x5⟩, y0, z0⟩ := HCE.out w1 HB1.out
        cases h1 : t == 0 with
        | false =>
          go_wp2_with fail
          go_ret
          exact ⟨by rw [HE.out]; simp [h0, h1], bthen HB.out HB1.out⟩
        | true =>
          cases h2 : ((nl : Int) == 0) with
          | false =>
            go_wp2_with fail
            go_ret
            exact ⟨by rw [HE.out]; simp [h0, h1, h2], bthen HB.out HB1.out⟩
          | true =>
            cases h3 : e == 0 with
            | false =>
              go_wp2_with fail
              go_ret
              exact ⟨by rw [HE.out]; simp [h0, h1, h2, h3], bthen HB.out HB1.out⟩
            | true =>
              cases h4 : ((nm : Int) == 0) with
              | false =>
                go_wp2_with fail
                go_ret
                exact ⟨by rw [HE.out]; simp [h0, h1, h2, h3, h4], bthen HB.out HB1.out⟩
              | true =>
                go_wp2_with fail
                go_ret
                exact ⟨by rw [HE.out]; simp [h0, h1, h2, h3, h4], bthen HB.out HB1.out⟩
    · have HE := Lib.hid (show endB all n ⟨k, a, t, l, e, m⟩ = false by unfold endB; rw [if_neg k1, if_neg k2, if_neg k3])
      have t1 : (k == 1) = false := by simpa using k1
      have t2 : (k == 2) = false := by simpa using k2
      have t3 : (k == 3) = false := by simpa using k3
      clear k1 k2 k3
      go_wp2_with fail
      go_ret
      exact ⟨by rw [HE.out]; rfl, HB.out⟩
end Go.Proofs.Ytjldddpchiaalaa
namespace Go.Proofs.Ytjldddpchiaalaa
open Go.RowKit
theorem InBox.drew {W : World} {B : Nat} {i : In} {v : Value} (h : InBox W B i v) : InBox W.drew B i v := h
theorem Ints.drew {W : World} {v : Value} {l : List Int} (h : Ints W v l) : Ints W.drew v l := h
theorem below_re {n : Nat} {w X Y : World} (h : Below n w X) (h1 : Y.os = X.os) (h2 : Y.tape = X.tape) (h3 : Y.output = X.output) (h4 : Y.heap = X.heap) : Below n w Y := by
  refine ⟨h1.trans h.os, h2.trans h.tape, h3.trans h.output, by rw [h4]; exact h.size, fun b hb => by rw [h4]; exact h.block b hb⟩
theorem asked_any (i : In) (A : Option Addr) (cap : Nat) (w : World) (hS : Ints w (.slice A i.l.length cap) i.l) (hn : i.l.length * 8 ≤ 140737488355328) :
    Calls Try.prog 92 #[inV i (.slice A i.l.length cap)] w (AskPost i w) := by
  obtain ⟨o, a, b, k, s, l⟩ := i
  by_cases h1 : o = 1
  · subst h1; exact asked_1 a b k s l A cap w hS hn
  by_cases h2 : 2 ≤ o ∧ o ≤ 11
  · exact asked_two o a b k s l A cap w h2 hS hn
  by_cases h12 : o = 12
  · subst h12; exact asked_12 a b k s l A cap w hS hn
  by_cases h13 : o = 13
  · subst h13; exact asked_13 a b k s l A cap w hS hn
  by_cases h14 : o = 14
  · subst h14; exact asked_14 a b k s l A cap w hS hn
  by_cases h16 : o = 16
  · subst h16; exact asked_16 a b k s l A cap w hS hn
  exact asked_nil o a b k s l A cap w ⟨h1, h2, h12, h13, h14, h16⟩ hS hn
theorem want_call {o : Oper} {y : Nat → Option Bool} {A B : Prop} (h : Region.wanted o y = true) (ha : A) : (if Region.wanted o y = true then A else B) := by
  rw [h]
  exact ha
/-- what the walk of ir.Inst holds of its box -/
theorem sbox_next {w W W' : World} {B : Nat} {c0 c1 c2 c3 c4 c5 : Value} (hb : Below W.heap.size W W') (h : W.cell? ⟨B, 0, none⟩ = some c0 ∧ W.cell? ⟨B, 1, none⟩ = some c1 ∧ W.cell? ⟨B, 2, none⟩ = some c2 ∧ W.cell? ⟨B, 3, none⟩ = some c3 ∧ W.cell? ⟨B, 4, none⟩ = some c4 ∧ W.cell? ⟨B, 5, none⟩ = some c5 ∧ Below w.heap.size w W) :
    W'.cell? ⟨B, 0, none⟩ = some c0 ∧ W'.cell? ⟨B, 1, none⟩ = some c1 ∧ W'.cell? ⟨B, 2, none⟩ = some c2 ∧ W'.cell? ⟨B, 3, none⟩ = some c3 ∧ W'.cell? ⟨B, 4, none⟩ = some c4 ∧ W'.cell? ⟨B, 5, none⟩ = some c5 ∧ Below w.heap.size w W' := by
  obtain ⟨h0, h1, h2, h3, h4, h5, h6⟩ := h
  have hB := World.block_lt_of_cell? W _ h0
  have e : ∀ o, W'.cell? ⟨B, o, none⟩ = W.cell? ⟨B, o, none⟩ := fun o => cellNext hB hb o
  exact ⟨(e 0).trans h0, (e 1).trans h1, (e 2).trans h2, (e 3).trans h3, (e 4).trans h4, (e 5).trans h5, bthen h6 hb⟩
theorem sbox_below {w W : World} {B : Nat} {c0 c1 c2 c3 c4 c5 : Value} (h : W.cell? ⟨B, 0, none⟩ = some c0 ∧ W.cell? ⟨B, 1, none⟩ = some c1 ∧ W.cell? ⟨B, 2, none⟩ = some c2 ∧ W.cell? ⟨B, 3, none⟩ = some c3 ∧ W.cell? ⟨B, 4, none⟩ = some c4 ∧ W.cell? ⟨B, 5, none⟩ = some c5 ∧ Below w.heap.size w W) : Below w.heap.size w W := h.2.2.2.2.2.2
theorem sbox_new (w : World) (i : In) (v : Value) (W : World) (hW : W = w.alloc (.cells (icells i v) 76)) :
    W.drew.cell? ⟨w.heap.size, 0, none⟩ = some (.int .i64 i.o) ∧ W.drew.cell? ⟨w.heap.size, 1, none⟩ = some (.int .i64 i.a) ∧ W.drew.cell? ⟨w.heap.size, 2, none⟩ = some (.int .i64 i.b) ∧ W.drew.cell? ⟨w.heap.size, 3, none⟩ = some (.int .u64 i.k) ∧ W.drew.cell? ⟨w.heap.size, 4, none⟩ = some (.string i.s) ∧ W.drew.cell? ⟨w.heap.size, 5, none⟩ = some v ∧ Below w.heap.size w W.drew := by
  subst hW
  obtain ⟨h0, h1, h2, h3, h4, h5⟩ := (InBox.new w i v).cells
  exact ⟨h0, h1, h2, h3, h4, h5, (balloc (Below.refl _ w) _).drew⟩
set_option maxRecDepth 100000 in
set_option maxHeartbeats 8000000 in
theorem inst_lo (i : In) (n : Int) (A : Option Addr) (cap : Nat) (w : World) (h : ¬ 1 ≤ i.o) (hS : Ints w (.slice A i.l.length cap) i.l) (hl : i.l.length ≤ 9223372036854775807) :
    Calls Try.prog 83 #[inV i (.slice A i.l.length cap), .int .i64 n] w fun e w' => e = .returned (.bool (instB n i)) ∧ Below w.heap.size w w' := by
  obtain ⟨o, a, b, k, s, l⟩ := i
  have HV := Lib.hid (show instB n ⟨o, a, b, k, s, l⟩ = false by rw [inst_chain]; simp only; simp [h])
  unfold inV
  simp only at h hl ⊢
  have t1 : decide (1 ≤ o) = false := decide_eq_false h
  clear hS
  go_enter Try.func83, Try.ntmps83
  go_wp2_with fail
  go_quiet (fail)
  go_wp2_with fail
  go_ret
  exact ⟨by rw [HV.out]; rfl, bthen (balloc (Below.refl _ w) _) (drewN_below' _ nq)⟩
set_option maxRecDepth 100000 in
set_option maxHeartbeats 8000000 in
theorem inst_hi (i : In) (n : Int) (A : Option Addr) (cap : Nat) (w : World) (h0 : 1 ≤ i.o) (h : ¬ i.o ≤ 16) (hS : Ints w (.slice A i.l.length cap) i.l) (hl : i.l.length ≤ 9223372036854775807) :
    Calls Try.prog 83 #[inV i (.slice A i.l.length cap), .int .i64 n] w fun e w' => e = .returned (.bool (instB n i)) ∧ Below w.heap.size w w' := by
  obtain ⟨o, a, b, k, s, l⟩ := i
  have HV := Lib.hid (show instB n ⟨o, a, b, k, s, l⟩ = false by rw [inst_chain]; simp only; simp [h])
  unfold inV
  simp only at h hl ⊢
  simp only at h0
  have t0 : decide (1 ≤ o) = true := decide_eq_true h0
  have t1 : decide (o ≤ 16) = false := decide_eq_false h
  clear hS
  go_enter Try.func83, Try.ntmps83
  go_wp2_with fail
  go_quiet (fail)
  go_wp2_with fail
  go_ret
  exact ⟨by rw [HV.out]; rfl, bthen (balloc (Below.refl _ w) _) (drewN_below' _ nq)⟩
set_option maxRecDepth 100000 in
set_option maxHeartbeats 8000000 in
theorem inst_len (i : In) (n : Int) (A : Option Addr) (cap : Nat) (w : World) (h0 : 1 ≤ i.o) (h1 : i.o ≤ 16) (h : ¬ i.l.length ≤ 6) (hS : Ints w (.slice A i.l.length cap) i.l) (hl : i.l.length ≤ 9223372036854775807) :
    Calls Try.prog 83 #[inV i (.slice A i.l.length cap), .int .i64 n] w fun e w' => e = .returned (.bool (instB n i)) ∧ Below w.heap.size w w' := by
  obtain ⟨o, a, b, k, s, l⟩ := i
  have HV := Lib.hid (show instB n ⟨o, a, b, k, s, l⟩ = false by rw [inst_chain]; simp only; simp [h])
  unfold inV
  simp only at h hl ⊢
  simp only at h0 h1
  have t0 : decide (1 ≤ o) = true := decide_eq_true h0
  have t1 : decide (o ≤ 16) = true := decide_eq_true h1
  have t2 : decide (l.length ≤ 6) = false := decide_eq_false h
  have t3 : decide ((l.length : Int) ≤ 6) = false := decide_eq_false (by omega)
  clear hS
  go_enter Try.func83, Try.ntmps83
  go_wp2_with fail
  go_quiet (fail)
  go_wp2_with fail
  go_ret
  exact ⟨by rw [HV.out]; rfl, bthen (balloc (Below.refl _ w) _) (drewN_below' _ nq)⟩
set_option maxRecDepth 100000 in
set_option maxHeartbeats 8000000 in
theorem inst_am (i : In) (n : Int) (A : Option Addr) (cap : Nat) (w : World) (h0 : 1 ≤ i.o) (h1 : i.o ≤ 16) (h2 : i.l.length ≤ 6) (hs : i.s.size < 9223372036854775808) (h : amongB n (usesI i) = false) (hS : Ints w (.slice A i.l.length cap) i.l) (hl : i.l.length ≤ 9223372036854775807) :
    Calls Try.prog 83 #[inV i (.slice A i.l.length cap), .int .i64 n] w fun e w' => e = .returned (.bool (instB n i)) ∧ Below w.heap.size w w' := by
  obtain ⟨o, a, b, k, s, l⟩ := i
  have HV := Lib.hid (show instB n ⟨o, a, b, k, s, l⟩ = false by rw [inst_chain]; simp only at h h0 h1 h2 ⊢; simp [h0, h1, h2, h])
  have HU := Lib.hid (fun (W : World) (hb : Below w.heap.size w W) => uses_any ⟨o, a, b, k, s, l⟩ _ W (hS.next hb) (by simp only at h2 ⊢; omega))
  have HA := Lib.hid (fun (W : World) (A2 : Option Addr) (c2 : Nat) (hI : Ints W (.slice A2 (usesI ⟨o, a, b, k, s, l⟩).length c2) (usesI ⟨o, a, b, k, s, l⟩)) => among_any n _ A2 _ c2 W hI (by have := uses_len ⟨o, a, b, k, s, l⟩ h2; omega))
  have HN := Lib.hid (fun (W : World) => mayName_any s W hs)
  have HH := Lib.hid (fun (W : World) => hasName_any o W)
  have HK := Lib.hid (fun (W : World) (hb : Below w.heap.size w W) => asked_any ⟨o, a, b, k, s, l⟩ A cap W (hS.next hb) (by simp only at h2 ⊢; omega))
  have HS := Lib.hid (fun (W : World) (A3 : Option Addr) (c3 : Nat) (hb : Below w.heap.size w W) (hI : Ints W (.slice A3 (askedI ⟨o, a, b, k, s, l⟩).l.length c3) (askedI ⟨o, a, b, k, s, l⟩).l) => sameInst_any ⟨o, a, b, k, s, l⟩ (askedI ⟨o, a, b, k, s, l⟩) A A3 cap c3 W (hS.next hb) hI hl)
  rw [h] at HA
  unfold inV at HU HK HS ⊢
  simp only at h0 h1 h2 hl HU HK HS ⊢
  have t0 : decide (1 ≤ o) = true := decide_eq_true h0
  have t1 : decide (o ≤ 16) = true := decide_eq_true h1
  have t2 : decide (l.length ≤ 6) = true := decide_eq_true h2
  have t3 : decide ((l.length : Int) ≤ 6) = true := decide_eq_true (by omega)
  clear hS HN HH HK HS hs hl h
  go_enter Try.func83, Try.ntmps83
  go_wp2_with fail
  obtain ⟨W, hW⟩ : ∃ W, W = w.alloc (.cells #[.int .i64 o, .int .i64 a, .int .i64 b, .int .u64 k, .string s, .slice A l.length cap] 76) := ⟨_, rfl⟩
  have hd := sbox_new w ⟨o, a, b, k, s, l⟩ (.slice A l.length cap) W hW
  simp only at hd
  rw [← hW]
  clear hW
  refine wp_region_held_drew (S := (fun W' => W'.cell? ⟨w.heap.size, 0, none⟩ = some (.int .i64 o) ∧ W'.cell? ⟨w.heap.size, 1, none⟩ = some (.int .i64 a) ∧ W'.cell? ⟨w.heap.size, 2, none⟩ = some (.int .i64 b) ∧ W'.cell? ⟨w.heap.size, 3, none⟩ = some (.int .u64 k) ∧ W'.cell? ⟨w.heap.size, 4, none⟩ = some (.string s) ∧ W'.cell? ⟨w.heap.size, 5, none⟩ = some (.slice A l.length cap) ∧ Below w.heap.size w W')) (by kernel_rfl) hd (fun hHeld => ?_)
  have hS0 := hd
  generalize W.drew = u0 at *
  refine wpAnyH_take (i := 0) (v := ?_) rfl (by kernel_rfl) (by kernel_rfl) (by kernel_rfl) (fun _ _ _ h => h) (Or.inl ⟨by rfl, ?_⟩) hS0 ?_
  rotate_left
  · intro W' hSw; (try dsimp only at hSw); go_simp; try (with_reducible rfl)
  (try simp only [Act.put, List.getElem_toArray, List.getElem_cons_zero, List.setIfInBounds_toArray, List.set_cons_zero, List.set_cons_succ])
  refine wpAnyH_take (i := 1) (v := ?_) rfl (by kernel_rfl) (by kernel_rfl) (by kernel_rfl) (fun _ _ _ h => h) (Or.inl ⟨by rfl, ?_⟩) hS0 ?_
  rotate_left
  · intro W' hSw; (try dsimp only at hSw); go_simp; try (with_reducible rfl)
  (try simp only [Act.put, List.getElem_toArray, List.getElem_cons_zero, List.getElem_cons_succ, List.setIfInBounds_toArray, List.set_cons_zero, List.set_cons_succ])
  refine wpAnyH_take (i := 2) (v := ?_) rfl (by kernel_rfl) (by kernel_rfl) (by kernel_rfl) (fun _ _ _ h => h) (Or.inl ⟨by rfl, ?_⟩) hS0 ?_
  rotate_left
  · intro W' hSw; (try dsimp only at hSw); go_simp; try (with_reducible rfl)
  (try simp only [Act.put, List.getElem_toArray, List.getElem_cons_zero, List.getElem_cons_succ, List.setIfInBounds_toArray, List.set_cons_zero, List.set_cons_succ])
  refine wpAnyH_take (i := 3) (v := ?_) rfl (by kernel_rfl) (by kernel_rfl) (by kernel_rfl) (fun _ _ _ h => h) (Or.inl ⟨by rfl, ?_⟩) hS0 ?_
  rotate_left
  · intro W' hSw; (try dsimp only at hSw); go_simp; try (with_reducible rfl)
  (try simp only [Act.put, List.getElem_toArray, List.getElem_cons_zero, List.getElem_cons_succ, List.setIfInBounds_toArray, List.set_cons_zero, List.set_cons_succ])
  refine wpAnyH_take (i := 4) (v := ?_) rfl (by kernel_rfl) (by kernel_rfl) (by kernel_rfl) (fun _ _ _ h => h) (Or.inl ⟨by rfl, ?_⟩) hS0 ?_
  rotate_left
  · intro W' hSw; (try dsimp only at hSw); go_simp; try (with_reducible rfl)
  (try simp only [Act.put, List.getElem_toArray, List.getElem_cons_zero, List.getElem_cons_succ, List.setIfInBounds_toArray, List.set_cons_zero, List.set_cons_succ])
  refine wpAnyH_take (i := 5) (v := ?_) rfl (by kernel_rfl) (by kernel_rfl) (by kernel_rfl) (fun _ _ _ h => h) (Or.inl ⟨by rfl, ?_⟩) hS0 ?_
  rotate_left
  · intro W' hSw; (try dsimp only at hSw); go_simp; try (with_reducible rfl)
  (try simp only [Act.put, List.getElem_toArray, List.getElem_cons_zero, List.getElem_cons_succ, List.setIfInBounds_toArray, List.set_cons_zero, List.set_cons_succ])
  refine wpAnyH_take (i := 6) (v := ?_) rfl (by kernel_rfl) (by kernel_rfl) (by kernel_rfl) (fun _ _ _ h => h) (Or.inl ⟨by rfl, ?_⟩) hS0 ?_
  rotate_left
  · intro W' hSw; (try dsimp only at hSw); go_simp; try (with_reducible rfl)
  (try simp only [Act.put, List.getElem_toArray, List.getElem_cons_zero, List.getElem_cons_succ, List.setIfInBounds_toArray, List.set_cons_zero, List.set_cons_succ])
  refine wpAnyH_take (i := 7) (v := ?_) rfl (by kernel_rfl) (by kernel_rfl) (by kernel_rfl) (fun _ _ _ h => h) (Or.inl ⟨by rfl, ?_⟩) hS0 ?_
  rotate_left
  · intro W' hSw; (try dsimp only at hSw); go_simp; try (with_reducible rfl)
  (try simp only [Act.put, List.getElem_toArray, List.getElem_cons_zero, List.getElem_cons_succ, List.setIfInBounds_toArray, List.set_cons_zero, List.set_cons_succ])
  refine wpAnyH_take (i := 8) (v := ?_) rfl (by kernel_rfl) (by kernel_rfl) (by kernel_rfl) (fun _ _ _ h => h) (Or.inl ⟨by rfl, ?_⟩) hS0 ?_
  rotate_left
  · intro W' hSw; (try dsimp only at hSw); go_simp; try (with_reducible rfl)
  (try simp only [Act.put, List.getElem_toArray, List.getElem_cons_zero, List.getElem_cons_succ, List.setIfInBounds_toArray, List.set_cons_zero, List.set_cons_succ])
  refine wpAnyH_take (i := 9) (v := ?_) rfl (by kernel_rfl) (by kernel_rfl) (by kernel_rfl) (fun _ _ _ h => h) (Or.inl ⟨by rfl, ?_⟩) hS0 ?_
  rotate_left
  · intro W' hSw; (try dsimp only at hSw); go_simp; try (with_reducible rfl)
  (try simp only [Act.put, List.getElem_toArray, List.getElem_cons_zero, List.getElem_cons_succ, List.setIfInBounds_toArray, List.set_cons_zero, List.set_cons_succ])
  refine wpAnyH_take (i := 10) (v := ?_) rfl (by kernel_rfl) (by kernel_rfl) (by kernel_rfl) (fun _ _ _ h => h) (Or.inl ⟨by rfl, ?_⟩) hS0 ?_
  rotate_left
  · intro W' hSw; (try dsimp only at hSw); go_simp; try (with_reducible rfl)
  (try simp only [Act.put, List.getElem_toArray, List.getElem_cons_zero, List.getElem_cons_succ, List.setIfInBounds_toArray, List.set_cons_zero, List.set_cons_succ])
  refine wpAnyH_take (i := 11) (v := ?_) rfl (by kernel_rfl) (by kernel_rfl) (by kernel_rfl) (fun _ _ _ h => h) (Or.inl ⟨by rfl, ?_⟩) hS0 ?_
  rotate_left
  · intro W' hSw; (try dsimp only at hSw); go_simp; try (with_reducible rfl)
  (try simp only [Act.put, List.getElem_toArray, List.getElem_cons_zero, List.getElem_cons_succ, List.setIfInBounds_toArray, List.set_cons_zero, List.set_cons_succ])
  refine wpAnyH_take (i := 12) (v := ?_) rfl (by kernel_rfl) (by kernel_rfl) (by kernel_rfl) (fun _ _ _ h => h) (Or.inl ⟨by rfl, ?_⟩) hS0 ?_
  rotate_left
  · intro W' hSw; (try dsimp only at hSw); go_simp; try (with_reducible rfl)
  (try simp only [Act.put, List.getElem_toArray, List.getElem_cons_zero, List.getElem_cons_succ, List.setIfInBounds_toArray, List.set_cons_zero, List.set_cons_succ])
  refine wpAnyH_take (i := 13) (v := ?_) rfl (by kernel_rfl) (by kernel_rfl) (by kernel_rfl) (fun _ _ _ h => h) (Or.inl ⟨by rfl, ?_⟩) hS0 ?_
  rotate_left
  · intro W' hSw; (try dsimp only at hSw); go_simp; try (with_reducible rfl)
  (try simp only [Act.put, List.getElem_toArray, List.getElem_cons_zero, List.getElem_cons_succ, List.setIfInBounds_toArray, List.set_cons_zero, List.set_cons_succ])
  refine wpAnyH_take (i := 14) (v := ?_) rfl (by kernel_rfl) (by kernel_rfl) (by kernel_rfl) (fun _ _ _ h => h) (Or.inl ⟨by rfl, ?_⟩) hS0 ?_
  rotate_left
  · intro W' hSw; (try dsimp only at hSw); go_simp; try (with_reducible rfl)
  (try simp only [Act.put, List.getElem_toArray, List.getElem_cons_zero, List.getElem_cons_succ, List.setIfInBounds_toArray, List.set_cons_zero, List.set_cons_succ])
  refine wpAnyH_take (i := 15) (v := ?_) rfl (by kernel_rfl) (by kernel_rfl) (by kernel_rfl) (fun _ _ _ h => h) (Or.inl ⟨by rfl, ?_⟩) hS0 ?_
  rotate_left
  · intro W' hSw; (try dsimp only at hSw); go_simp; try (with_reducible rfl)
  (try simp only [Act.put, List.getElem_toArray, List.getElem_cons_zero, List.getElem_cons_succ, List.setIfInBounds_toArray, List.set_cons_zero, List.set_cons_succ])
  refine wpAnyH_take (i := 16) (v := ?_) rfl (by kernel_rfl) (by kernel_rfl) (by kernel_rfl) (fun _ _ _ h => h) (Or.inl ⟨by rfl, ?_⟩) hS0 ?_
  rotate_left
  · intro W' hSw; (try dsimp only at hSw); go_simp; try (with_reducible rfl)
  (try simp only [Act.put, List.getElem_toArray, List.getElem_cons_zero, List.getElem_cons_succ, List.setIfInBounds_toArray, List.set_cons_zero, List.set_cons_succ])
  refine wpAnyH_ready (rs := [17]) (by kernel_rfl) (by simp) ?_
  refine AllReadyH.cons rfl (fun K hK => ?_) AllReadyH.nil
  (try refine want_call (by rfl) ?_)
  go_simp
  refine Calls.mono (HU.out _ (sbox_below hS0)) ?_
  rintro r w2 ⟨v2, rfl, ho2, hb2⟩
  have HI2 := Lib.hid ho2.ints
  obtain ⟨A2, c2, hv2⟩ := HI2.out.slice
  subst hv2
  clear ho2
  have hS22 := sbox_next hb2 hS0
  refine hK.out _ _ hS22 (fun hHeld => ?_)
  clear hK
  (try simp only [Act.put, List.getElem_toArray, List.getElem_cons_zero, List.getElem_cons_succ, List.setIfInBounds_toArray, List.set_cons_zero, List.set_cons_succ])
  refine wpAnyH_ready (rs := [18]) (by kernel_rfl) (by simp) ?_
  refine AllReadyH.cons rfl (fun K hK => ?_) AllReadyH.nil
  (try refine want_call (by rfl) ?_)
  go_simp
  refine Calls.mono (HA.out _ _ _ HI2.out) ?_
  rintro r w3 ⟨rfl, hb3⟩
  have hS23 := sbox_next hb3 hS22
  refine hK.out _ _ hS23 (fun hHeld => ?_)
  clear hK
  (try simp only [Act.put, List.getElem_toArray, List.getElem_cons_zero, List.getElem_cons_succ, List.setIfInBounds_toArray, List.set_cons_zero, List.set_cons_succ])
  refine wpAnyH_take (i := 19) (v := ?_) rfl (by kernel_rfl) (by kernel_rfl) (by kernel_rfl) (fun _ _ _ h => h) (Or.inl ⟨by rfl, ?_⟩) hS23 ?_
  rotate_left
  · intro W' hSw; (try dsimp only at hSw); go_simp; try (with_reducible rfl)
  (try simp only [Act.put, List.getElem_toArray, List.getElem_cons_zero, List.getElem_cons_succ, List.setIfInBounds_toArray, List.set_cons_zero, List.set_cons_succ])
  refine wpAnyH_take (i := 20) (v := ?_) rfl (by kernel_rfl) (by kernel_rfl) (by kernel_rfl) (fun _ _ _ h => h) (Or.inl ⟨by rfl, ?_⟩) hS23 ?_
  rotate_left
  · intro W' hSw; (try dsimp only at hSw); go_simp; try (with_reducible rfl)
  (try simp only [Act.put, List.getElem_toArray, List.getElem_cons_zero, List.getElem_cons_succ, List.setIfInBounds_toArray, List.set_cons_zero, List.set_cons_succ])
  refine wpAnyH_take (i := 21) (v := undef) rfl (by kernel_rfl) (by kernel_rfl) (by kernel_rfl) (fun _ _ _ h => h) (Or.inr ⟨by rfl, rfl⟩) hS23 ?_
  (try simp only [Act.put, List.getElem_toArray, List.getElem_cons_zero, List.getElem_cons_succ, List.setIfInBounds_toArray, List.set_cons_zero, List.set_cons_succ])
  refine wpAnyH_take (i := 22) (v := undef) rfl (by kernel_rfl) (by kernel_rfl) (by kernel_rfl) (fun _ _ _ h => h) (Or.inr ⟨by rfl, rfl⟩) hS23 ?_
  (try simp only [Act.put, List.getElem_toArray, List.getElem_cons_zero, List.getElem_cons_succ, List.setIfInBounds_toArray, List.set_cons_zero, List.set_cons_succ])
  refine wpAnyH_take (i := 23) (v := undef) rfl (by kernel_rfl) (by kernel_rfl) (by kernel_rfl) (fun _ _ _ h => h) (Or.inr ⟨by rfl, rfl⟩) hS23 ?_
  (try simp only [Act.put, List.getElem_toArray, List.getElem_cons_zero, List.getElem_cons_succ, List.setIfInBounds_toArray, List.set_cons_zero, List.set_cons_succ])
  refine wpAnyH_take (i := 24) (v := undef) rfl (by kernel_rfl) (by kernel_rfl) (by kernel_rfl) (fun _ _ _ h => h) (Or.inr ⟨by rfl, rfl⟩) hS23 ?_
  (try simp only [Act.put, List.getElem_toArray, List.getElem_cons_zero, List.getElem_cons_succ, List.setIfInBounds_toArray, List.set_cons_zero, List.set_cons_succ])
  refine wpAnyH_take (i := 25) (v := undef) rfl (by kernel_rfl) (by kernel_rfl) (by kernel_rfl) (fun _ _ _ h => h) (Or.inr ⟨by rfl, rfl⟩) hS23 ?_
  (try simp only [Act.put, List.getElem_toArray, List.getElem_cons_zero, List.getElem_cons_succ, List.setIfInBounds_toArray, List.set_cons_zero, List.set_cons_succ])
  refine wpAnyH_take (i := 26) (v := undef) rfl (by kernel_rfl) (by kernel_rfl) (by kernel_rfl) (fun _ _ _ h => h) (Or.inr ⟨by rfl, rfl⟩) hS23 ?_
  (try simp only [Act.put, List.getElem_toArray, List.getElem_cons_zero, List.getElem_cons_succ, List.setIfInBounds_toArray, List.set_cons_zero, List.set_cons_succ])
  refine wpAnyH_take (i := 27) (v := undef) rfl (by kernel_rfl) (by kernel_rfl) (by kernel_rfl) (fun _ _ _ h => h) (Or.inr ⟨by rfl, rfl⟩) hS23 ?_
  (try simp only [Act.put, List.getElem_toArray, List.getElem_cons_zero, List.getElem_cons_succ, List.setIfInBounds_toArray, List.set_cons_zero, List.set_cons_succ])
  refine wpAnyH_take (i := 28) (v := undef) rfl (by kernel_rfl) (by kernel_rfl) (by kernel_rfl) (fun _ _ _ h => h) (Or.inr ⟨by rfl, rfl⟩) hS23 ?_
  (try simp only [Act.put, List.getElem_toArray, List.getElem_cons_zero, List.getElem_cons_succ, List.setIfInBounds_toArray, List.set_cons_zero, List.set_cons_succ])
  refine wpAnyH_take (i := 29) (v := undef) rfl (by kernel_rfl) (by kernel_rfl) (by kernel_rfl) (fun _ _ _ h => h) (Or.inr ⟨by rfl, rfl⟩) hS23 ?_
  (try simp only [Act.put, List.getElem_toArray, List.getElem_cons_zero, List.getElem_cons_succ, List.setIfInBounds_toArray, List.set_cons_zero, List.set_cons_succ])
  refine wpAnyH_take (i := 30) (v := ?_) rfl (by kernel_rfl) (by kernel_rfl) (by kernel_rfl) (fun _ _ _ h => h) (Or.inl ⟨by rfl, ?_⟩) hS23 ?_
  rotate_left
  · intro W' hSw; (try dsimp only at hSw); go_simp; try (with_reducible rfl)
  (try simp only [Act.put, List.getElem_toArray, List.getElem_cons_zero, List.getElem_cons_succ, List.setIfInBounds_toArray, List.set_cons_zero, List.set_cons_succ])
  refine wpAnyH_take (i := 31) (v := ?_) rfl (by kernel_rfl) (by kernel_rfl) (by kernel_rfl) (fun _ _ _ h => h) (Or.inl ⟨by rfl, ?_⟩) hS23 ?_
  rotate_left
  · intro W' hSw; (try dsimp only at hSw); go_simp; try (with_reducible rfl)
  (try simp only [Act.put, List.getElem_toArray, List.getElem_cons_zero, List.getElem_cons_succ, List.setIfInBounds_toArray, List.set_cons_zero, List.set_cons_succ])
  refine wpAnyH_take (i := 32) (v := undef) rfl (by kernel_rfl) (by kernel_rfl) (by kernel_rfl) (fun _ _ _ h => h) (Or.inr ⟨by rfl, rfl⟩) hS23 ?_
  (try simp only [Act.put, List.getElem_toArray, List.getElem_cons_zero, List.getElem_cons_succ, List.setIfInBounds_toArray, List.set_cons_zero, List.set_cons_succ])
  refine wpAnyH_take (i := 33) (v := undef) rfl (by kernel_rfl) (by kernel_rfl) (by kernel_rfl) (fun _ _ _ h => h) (Or.inr ⟨by rfl, rfl⟩) hS23 ?_
  (try simp only [Act.put, List.getElem_toArray, List.getElem_cons_zero, List.getElem_cons_succ, List.setIfInBounds_toArray, List.set_cons_zero, List.set_cons_succ])
  refine wpAnyH_take (i := 34) (v := undef) rfl (by kernel_rfl) (by kernel_rfl) (by kernel_rfl) (fun _ _ _ h => h) (Or.inr ⟨by rfl, rfl⟩) hS23 ?_
  (try simp only [Act.put, List.getElem_toArray, List.getElem_cons_zero, List.getElem_cons_succ, List.setIfInBounds_toArray, List.set_cons_zero, List.set_cons_succ])
  refine wpAnyH_take (i := 35) (v := undef) rfl (by kernel_rfl) (by kernel_rfl) (by kernel_rfl) (fun _ _ _ h => h) (Or.inr ⟨by rfl, rfl⟩) hS23 ?_
  (try simp only [Act.put, List.getElem_toArray, List.getElem_cons_zero, List.getElem_cons_succ, List.setIfInBounds_toArray, List.set_cons_zero, List.set_cons_succ])
  refine wpAnyH_take (i := 36) (v := ?_) rfl (by kernel_rfl) (by kernel_rfl) (by kernel_rfl) (fun _ _ _ h => h) (Or.inl ⟨by rfl, ?_⟩) hS23 ?_
  rotate_left
  · intro W' hSw; (try dsimp only at hSw); go_simp; try (with_reducible rfl)
  (try simp only [Act.put, List.getElem_toArray, List.getElem_cons_zero, List.getElem_cons_succ, List.setIfInBounds_toArray, List.set_cons_zero, List.set_cons_succ])
  refine wpAnyH_take (i := 37) (v := ?_) rfl (by kernel_rfl) (by kernel_rfl) (by kernel_rfl) (fun _ _ _ h => h) (Or.inl ⟨by rfl, ?_⟩) hS23 ?_
  rotate_left
  · intro W' hSw; (try dsimp only at hSw); go_simp; try (with_reducible rfl)
  (try simp only [Act.put, List.getElem_toArray, List.getElem_cons_zero, List.getElem_cons_succ, List.setIfInBounds_toArray, List.set_cons_zero, List.set_cons_succ])
  refine wpAnyH_done (by kernel_rfl) ?_ _
  go_wp2_with fail
  go_ret
  exact ⟨by rw [HV.out]; rfl, sbox_below hS23⟩
set_option maxRecDepth 100000 in
set_option maxHeartbeats 8000000 in
theorem inst_nm (i : In) (n : Int) (A : Option Addr) (cap : Nat) (w : World) (h0 : 1 ≤ i.o) (h1 : i.o ≤ 16) (h2 : i.l.length ≤ 6) (hs : i.s.size < 9223372036854775808) (h : amongB n (usesI i) = true) (hn : nameB i.s = false) (hh : hasB i.o = true) (hS : Ints w (.slice A i.l.length cap) i.l) (hl : i.l.length ≤ 9223372036854775807) :
    Calls Try.prog 83 #[inV i (.slice A i.l.length cap), .int .i64 n] w fun e w' => e = .returned (.bool (instB n i)) ∧ Below w.heap.size w w' := by
  obtain ⟨o, a, b, k, s, l⟩ := i
  have HV := Lib.hid (show instB n ⟨o, a, b, k, s, l⟩ = false by rw [inst_chain]; simp only at h h0 h1 h2 ⊢; simp [h0, h1, h2, h, hn, hh])
  have HU := Lib.hid (fun (W : World) (hb : Below w.heap.size w W) => uses_any ⟨o, a, b, k, s, l⟩ _ W (hS.next hb) (by simp only at h2 ⊢; omega))
  have HA := Lib.hid (fun (W : World) (A2 : Option Addr) (c2 : Nat) (hI : Ints W (.slice A2 (usesI ⟨o, a, b, k, s, l⟩).length c2) (usesI ⟨o, a, b, k, s, l⟩)) => among_any n _ A2 _ c2 W hI (by have := uses_len ⟨o, a, b, k, s, l⟩ h2; omega))
  have HN := Lib.hid (fun (W : World) => mayName_any s W hs)
  have HH := Lib.hid (fun (W : World) => hasName_any o W)
  have HK := Lib.hid (fun (W : World) (hb : Below w.heap.size w W) => asked_any ⟨o, a, b, k, s, l⟩ A cap W (hS.next hb) (by simp only at h2 ⊢; omega))
  have HS := Lib.hid (fun (W : World) (A3 : Option Addr) (c3 : Nat) (hb : Below w.heap.size w W) (hI : Ints W (.slice A3 (askedI ⟨o, a, b, k, s, l⟩).l.length c3) (askedI ⟨o, a, b, k, s, l⟩).l) => sameInst_any ⟨o, a, b, k, s, l⟩ (askedI ⟨o, a, b, k, s, l⟩) A A3 cap c3 W (hS.next hb) hI hl)
  rw [h] at HA
  rw [show (decide (1 ≤ (s.size : Int)) && decide ((s.size : Int) ≤ 16)) = false from hn] at HN
  rw [show (o == 12 || o == 13 || o == 14) = true from hh] at HH
  unfold inV at HU HK HS ⊢
  simp only at h0 h1 h2 hl HU HK HS ⊢
  have t0 : decide (1 ≤ o) = true := decide_eq_true h0
  have t1 : decide (o ≤ 16) = true := decide_eq_true h1
  have t2 : decide (l.length ≤ 6) = true := decide_eq_true h2
  have t3 : decide ((l.length : Int) ≤ 6) = true := decide_eq_true (by omega)
  clear hS HK HS hs hl h hn hh
  go_enter Try.func83, Try.ntmps83
  go_wp2_with fail
  obtain ⟨W, hW⟩ : ∃ W, W = w.alloc (.cells #[.int .i64 o, .int .i64 a, .int .i64 b, .int .u64 k, .string s, .slice A l.length cap] 76) := ⟨_, rfl⟩
  have hd := sbox_new w ⟨o, a, b, k, s, l⟩ (.slice A l.length cap) W hW
  simp only at hd
  rw [← hW]
  clear hW
  refine wp_region_held_drew (S := (fun W' => W'.cell? ⟨w.heap.size, 0, none⟩ = some (.int .i64 o) ∧ W'.cell? ⟨w.heap.size, 1, none⟩ = some (.int .i64 a) ∧ W'.cell? ⟨w.heap.size, 2, none⟩ = some (.int .i64 b) ∧ W'.cell? ⟨w.heap.size, 3, none⟩ = some (.int .u64 k) ∧ W'.cell? ⟨w.heap.size, 4, none⟩ = some (.string s) ∧ W'.cell? ⟨w.heap.size, 5, none⟩ = some (.slice A l.length cap) ∧ Below w.heap.size w W')) (by kernel_rfl) hd (fun hHeld => ?_)
  have hS0 := hd
  generalize W.drew = u0 at *
  refine wpAnyH_take (i := 0) (v := ?_) rfl (by kernel_rfl) (by kernel_rfl) (by kernel_rfl) (fun _ _ _ h => h) (Or.inl ⟨by rfl, ?_⟩) hS0 ?_
  rotate_left
  · intro W' hSw; (try dsimp only at hSw); go_simp; try (with_reducible rfl)
  (try simp only [Act.put, List.getElem_toArray, List.getElem_cons_zero, List.setIfInBounds_toArray, List.set_cons_zero, List.set_cons_succ])
  refine wpAnyH_take (i := 1) (v := ?_) rfl (by kernel_rfl) (by kernel_rfl) (by kernel_rfl) (fun _ _ _ h => h) (Or.inl ⟨by rfl, ?_⟩) hS0 ?_
  rotate_left
  · intro W' hSw; (try dsimp only at hSw); go_simp; try (with_reducible rfl)
  (try simp only [Act.put, List.getElem_toArray, List.getElem_cons_zero, List.getElem_cons_succ, List.setIfInBounds_toArray, List.set_cons_zero, List.set_cons_succ])
  refine wpAnyH_take (i := 2) (v := ?_) rfl (by kernel_rfl) (by kernel_rfl) (by kernel_rfl) (fun _ _ _ h => h) (Or.inl ⟨by rfl, ?_⟩) hS0 ?_
  rotate_left
  · intro W' hSw; (try dsimp only at hSw); go_simp; try (with_reducible rfl)
  (try simp only [Act.put, List.getElem_toArray, List.getElem_cons_zero, List.getElem_cons_succ, List.setIfInBounds_toArray, List.set_cons_zero, List.set_cons_succ])
  refine wpAnyH_take (i := 3) (v := ?_) rfl (by kernel_rfl) (by kernel_rfl) (by kernel_rfl) (fun _ _ _ h => h) (Or.inl ⟨by rfl, ?_⟩) hS0 ?_
  rotate_left
  · intro W' hSw; (try dsimp only at hSw); go_simp; try (with_reducible rfl)
  (try simp only [Act.put, List.getElem_toArray, List.getElem_cons_zero, List.getElem_cons_succ, List.setIfInBounds_toArray, List.set_cons_zero, List.set_cons_succ])
  refine wpAnyH_take (i := 4) (v := ?_) rfl (by kernel_rfl) (by kernel_rfl) (by kernel_rfl) (fun _ _ _ h => h) (Or.inl ⟨by rfl, ?_⟩) hS0 ?_
  rotate_left
  · intro W' hSw; (try dsimp only at hSw); go_simp; try (with_reducible rfl)
  (try simp only [Act.put, List.getElem_toArray, List.getElem_cons_zero, List.getElem_cons_succ, List.setIfInBounds_toArray, List.set_cons_zero, List.set_cons_succ])
  refine wpAnyH_take (i := 5) (v := ?_) rfl (by kernel_rfl) (by kernel_rfl) (by kernel_rfl) (fun _ _ _ h => h) (Or.inl ⟨by rfl, ?_⟩) hS0 ?_
  rotate_left
  · intro W' hSw; (try dsimp only at hSw); go_simp; try (with_reducible rfl)
  (try simp only [Act.put, List.getElem_toArray, List.getElem_cons_zero, List.getElem_cons_succ, List.setIfInBounds_toArray, List.set_cons_zero, List.set_cons_succ])
  refine wpAnyH_take (i := 6) (v := ?_) rfl (by kernel_rfl) (by kernel_rfl) (by kernel_rfl) (fun _ _ _ h => h) (Or.inl ⟨by rfl, ?_⟩) hS0 ?_
  rotate_left
  · intro W' hSw; (try dsimp only at hSw); go_simp; try (with_reducible rfl)
  (try simp only [Act.put, List.getElem_toArray, List.getElem_cons_zero, List.getElem_cons_succ, List.setIfInBounds_toArray, List.set_cons_zero, List.set_cons_succ])
  refine wpAnyH_take (i := 7) (v := ?_) rfl (by kernel_rfl) (by kernel_rfl) (by kernel_rfl) (fun _ _ _ h => h) (Or.inl ⟨by rfl, ?_⟩) hS0 ?_
  rotate_left
  · intro W' hSw; (try dsimp only at hSw); go_simp; try (with_reducible rfl)
  (try simp only [Act.put, List.getElem_toArray, List.getElem_cons_zero, List.getElem_cons_succ, List.setIfInBounds_toArray, List.set_cons_zero, List.set_cons_succ])
  refine wpAnyH_take (i := 8) (v := ?_) rfl (by kernel_rfl) (by kernel_rfl) (by kernel_rfl) (fun _ _ _ h => h) (Or.inl ⟨by rfl, ?_⟩) hS0 ?_
  rotate_left
  · intro W' hSw; (try dsimp only at hSw); go_simp; try (with_reducible rfl)
  (try simp only [Act.put, List.getElem_toArray, List.getElem_cons_zero, List.getElem_cons_succ, List.setIfInBounds_toArray, List.set_cons_zero, List.set_cons_succ])
  refine wpAnyH_take (i := 9) (v := ?_) rfl (by kernel_rfl) (by kernel_rfl) (by kernel_rfl) (fun _ _ _ h => h) (Or.inl ⟨by rfl, ?_⟩) hS0 ?_
  rotate_left
  · intro W' hSw; (try dsimp only at hSw); go_simp; try (with_reducible rfl)
  (try simp only [Act.put, List.getElem_toArray, List.getElem_cons_zero, List.getElem_cons_succ, List.setIfInBounds_toArray, List.set_cons_zero, List.set_cons_succ])
  refine wpAnyH_take (i := 10) (v := ?_) rfl (by kernel_rfl) (by kernel_rfl) (by kernel_rfl) (fun _ _ _ h => h) (Or.inl ⟨by rfl, ?_⟩) hS0 ?_
  rotate_left
  · intro W' hSw; (try dsimp only at hSw); go_simp; try (with_reducible rfl)
  (try simp only [Act.put, List.getElem_toArray, List.getElem_cons_zero, List.getElem_cons_succ, List.setIfInBounds_toArray, List.set_cons_zero, List.set_cons_succ])
  refine wpAnyH_take (i := 11) (v := ?_) rfl (by kernel_rfl) (by kernel_rfl) (by kernel_rfl) (fun _ _ _ h => h) (Or.inl ⟨by rfl, ?_⟩) hS0 ?_
  rotate_left
  · intro W' hSw; (try dsimp only at hSw); go_simp; try (with_reducible rfl)
  (try simp only [Act.put, List.getElem_toArray, List.getElem_cons_zero, List.getElem_cons_succ, List.setIfInBounds_toArray, List.set_cons_zero, List.set_cons_succ])
  refine wpAnyH_take (i := 12) (v := ?_) rfl (by kernel_rfl) (by kernel_rfl) (by kernel_rfl) (fun _ _ _ h => h) (Or.inl ⟨by rfl, ?_⟩) hS0 ?_
  rotate_left
  · intro W' hSw; (try dsimp only at hSw); go_simp; try (with_reducible rfl)
  (try simp only [Act.put, List.getElem_toArray, List.getElem_cons_zero, List.getElem_cons_succ, List.setIfInBounds_toArray, List.set_cons_zero, List.set_cons_succ])
  refine wpAnyH_take (i := 13) (v := ?_) rfl (by kernel_rfl) (by kernel_rfl) (by kernel_rfl) (fun _ _ _ h => h) (Or.inl ⟨by rfl, ?_⟩) hS0 ?_
  rotate_left
  · intro W' hSw; (try dsimp only at hSw); go_simp; try (with_reducible rfl)
  (try simp only [Act.put, List.getElem_toArray, List.getElem_cons_zero, List.getElem_cons_succ, List.setIfInBounds_toArray, List.set_cons_zero, List.set_cons_succ])
  refine wpAnyH_take (i := 14) (v := ?_) rfl (by kernel_rfl) (by kernel_rfl) (by kernel_rfl) (fun _ _ _ h => h) (Or.inl ⟨by rfl, ?_⟩) hS0 ?_
  rotate_left
  · intro W' hSw; (try dsimp only at hSw); go_simp; try (with_reducible rfl)
  (try simp only [Act.put, List.getElem_toArray, List.getElem_cons_zero, List.getElem_cons_succ, List.setIfInBounds_toArray, List.set_cons_zero, List.set_cons_succ])
  refine wpAnyH_take (i := 15) (v := ?_) rfl (by kernel_rfl) (by kernel_rfl) (by kernel_rfl) (fun _ _ _ h => h) (Or.inl ⟨by rfl, ?_⟩) hS0 ?_
  rotate_left
  · intro W' hSw; (try dsimp only at hSw); go_simp; try (with_reducible rfl)
  (try simp only [Act.put, List.getElem_toArray, List.getElem_cons_zero, List.getElem_cons_succ, List.setIfInBounds_toArray, List.set_cons_zero, List.set_cons_succ])
  refine wpAnyH_take (i := 16) (v := ?_) rfl (by kernel_rfl) (by kernel_rfl) (by kernel_rfl) (fun _ _ _ h => h) (Or.inl ⟨by rfl, ?_⟩) hS0 ?_
  rotate_left
  · intro W' hSw; (try dsimp only at hSw); go_simp; try (with_reducible rfl)
  (try simp only [Act.put, List.getElem_toArray, List.getElem_cons_zero, List.getElem_cons_succ, List.setIfInBounds_toArray, List.set_cons_zero, List.set_cons_succ])
  refine wpAnyH_ready (rs := [17]) (by kernel_rfl) (by simp) ?_
  refine AllReadyH.cons rfl (fun K hK => ?_) AllReadyH.nil
  (try refine want_call (by rfl) ?_)
  go_simp
  refine Calls.mono (HU.out _ (sbox_below hS0)) ?_
  rintro r w2 ⟨v2, rfl, ho2, hb2⟩
  have HI2 := Lib.hid ho2.ints
  obtain ⟨A2, c2, hv2⟩ := HI2.out.slice
  subst hv2
  clear ho2
  have hS22 := sbox_next hb2 hS0
  refine hK.out _ _ hS22 (fun hHeld => ?_)
  clear hK
  (try simp only [Act.put, List.getElem_toArray, List.getElem_cons_zero, List.getElem_cons_succ, List.setIfInBounds_toArray, List.set_cons_zero, List.set_cons_succ])
  refine wpAnyH_ready (rs := [18]) (by kernel_rfl) (by simp) ?_
  refine AllReadyH.cons rfl (fun K hK => ?_) AllReadyH.nil
  (try refine want_call (by rfl) ?_)
  go_simp
  refine Calls.mono (HA.out _ _ _ HI2.out) ?_
  rintro r w3 ⟨rfl, hb3⟩
  have hS23 := sbox_next hb3 hS22
  refine hK.out _ _ hS23 (fun hHeld => ?_)
  clear hK
  (try simp only [Act.put, List.getElem_toArray, List.getElem_cons_zero, List.getElem_cons_succ, List.setIfInBounds_toArray, List.set_cons_zero, List.set_cons_succ])
  refine wpAnyH_take (i := 19) (v := ?_) rfl (by kernel_rfl) (by kernel_rfl) (by kernel_rfl) (fun _ _ _ h => h) (Or.inl ⟨by rfl, ?_⟩) hS23 ?_
  rotate_left
  · intro W' hSw; (try dsimp only at hSw); go_simp; try (with_reducible rfl)
  (try simp only [Act.put, List.getElem_toArray, List.getElem_cons_zero, List.getElem_cons_succ, List.setIfInBounds_toArray, List.set_cons_zero, List.set_cons_succ])
  refine wpAnyH_take (i := 20) (v := ?_) rfl (by kernel_rfl) (by kernel_rfl) (by kernel_rfl) (fun _ _ _ h => h) (Or.inl ⟨by rfl, ?_⟩) hS23 ?_
  rotate_left
  · intro W' hSw; (try dsimp only at hSw); go_simp; try (with_reducible rfl)
  (try simp only [Act.put, List.getElem_toArray, List.getElem_cons_zero, List.getElem_cons_succ, List.setIfInBounds_toArray, List.set_cons_zero, List.set_cons_succ])
  refine wpAnyH_take (i := 21) (v := ?_) rfl (by kernel_rfl) (by kernel_rfl) (by kernel_rfl) (fun _ _ _ h => h) (Or.inl ⟨by rfl, ?_⟩) hS23 ?_
  rotate_left
  · intro W' hSw; (try dsimp only at hSw); go_simp; try (with_reducible rfl)
  (try simp only [Act.put, List.getElem_toArray, List.getElem_cons_zero, List.getElem_cons_succ, List.setIfInBounds_toArray, List.set_cons_zero, List.set_cons_succ])
  refine wpAnyH_take (i := 22) (v := ?_) rfl (by kernel_rfl) (by kernel_rfl) (by kernel_rfl) (fun _ _ _ h => h) (Or.inl ⟨by rfl, ?_⟩) hS23 ?_
  rotate_left
  · intro W' hSw; (try dsimp only at hSw); go_simp; try (with_reducible rfl)
  (try simp only [Act.put, List.getElem_toArray, List.getElem_cons_zero, List.getElem_cons_succ, List.setIfInBounds_toArray, List.set_cons_zero, List.set_cons_succ])
  refine wpAnyH_ready (rs := [23]) (by kernel_rfl) (by simp) ?_
  refine AllReadyH.cons rfl (fun K hK => ?_) AllReadyH.nil
  (try refine want_call (by rfl) ?_)
  go_simp
  refine Calls.mono (HN.out _) ?_
  rintro r w4 ⟨rfl, rfl⟩
  refine hK.out _ _ hS23 (fun hHeld => ?_)
  clear hK
  (try simp only [Act.put, List.getElem_toArray, List.getElem_cons_zero, List.getElem_cons_succ, List.setIfInBounds_toArray, List.set_cons_zero, List.set_cons_succ])
  refine wpAnyH_take (i := 24) (v := ?_) rfl (by kernel_rfl) (by kernel_rfl) (by kernel_rfl) (fun _ _ _ h => h) (Or.inl ⟨by rfl, ?_⟩) hS23 ?_
  rotate_left
  · intro W' hSw; (try dsimp only at hSw); go_simp; try (with_reducible rfl)
  (try simp only [Act.put, List.getElem_toArray, List.getElem_cons_zero, List.getElem_cons_succ, List.setIfInBounds_toArray, List.set_cons_zero, List.set_cons_succ])
  refine wpAnyH_take (i := 25) (v := ?_) rfl (by kernel_rfl) (by kernel_rfl) (by kernel_rfl) (fun _ _ _ h => h) (Or.inl ⟨by rfl, ?_⟩) hS23 ?_
  rotate_left
  · intro W' hSw; (try dsimp only at hSw); go_simp; try (with_reducible rfl)
  (try simp only [Act.put, List.getElem_toArray, List.getElem_cons_zero, List.getElem_cons_succ, List.setIfInBounds_toArray, List.set_cons_zero, List.set_cons_succ])
  refine wpAnyH_take (i := 26) (v := ?_) rfl (by kernel_rfl) (by kernel_rfl) (by kernel_rfl) (fun _ _ _ h => h) (Or.inl ⟨by rfl, ?_⟩) hS23 ?_
  rotate_left
  · intro W' hSw; (try dsimp only at hSw); go_simp; try (with_reducible rfl)
  (try simp only [Act.put, List.getElem_toArray, List.getElem_cons_zero, List.getElem_cons_succ, List.setIfInBounds_toArray, List.set_cons_zero, List.set_cons_succ])
  refine wpAnyH_ready (rs := [27]) (by kernel_rfl) (by simp) ?_
  refine AllReadyH.cons rfl (fun K hK => ?_) AllReadyH.nil
  (try refine want_call (by rfl) ?_)
  go_simp
  refine Calls.mono (HH.out _) ?_
  rintro r w5 ⟨rfl, rfl⟩
  refine hK.out _ _ hS23 (fun hHeld => ?_)
  clear hK
  (try simp only [Act.put, List.getElem_toArray, List.getElem_cons_zero, List.getElem_cons_succ, List.setIfInBounds_toArray, List.set_cons_zero, List.set_cons_succ])
  refine wpAnyH_take (i := 28) (v := ?_) rfl (by kernel_rfl) (by kernel_rfl) (by kernel_rfl) (fun _ _ _ h => h) (Or.inl ⟨by rfl, ?_⟩) hS23 ?_
  rotate_left
  · intro W' hSw; (try dsimp only at hSw); go_simp; try (with_reducible rfl)
  (try simp only [Act.put, List.getElem_toArray, List.getElem_cons_zero, List.getElem_cons_succ, List.setIfInBounds_toArray, List.set_cons_zero, List.set_cons_succ])
  refine wpAnyH_take (i := 29) (v := ?_) rfl (by kernel_rfl) (by kernel_rfl) (by kernel_rfl) (fun _ _ _ h => h) (Or.inl ⟨by rfl, ?_⟩) hS23 ?_
  rotate_left
  · intro W' hSw; (try dsimp only at hSw); go_simp; try (with_reducible rfl)
  (try simp only [Act.put, List.getElem_toArray, List.getElem_cons_zero, List.getElem_cons_succ, List.setIfInBounds_toArray, List.set_cons_zero, List.set_cons_succ])
  refine wpAnyH_take (i := 30) (v := ?_) rfl (by kernel_rfl) (by kernel_rfl) (by kernel_rfl) (fun _ _ _ h => h) (Or.inl ⟨by rfl, ?_⟩) hS23 ?_
  rotate_left
  · intro W' hSw; (try dsimp only at hSw); go_simp; try (with_reducible rfl)
  (try simp only [Act.put, List.getElem_toArray, List.getElem_cons_zero, List.getElem_cons_succ, List.setIfInBounds_toArray, List.set_cons_zero, List.set_cons_succ])
  refine wpAnyH_take (i := 31) (v := ?_) rfl (by kernel_rfl) (by kernel_rfl) (by kernel_rfl) (fun _ _ _ h => h) (Or.inl ⟨by rfl, ?_⟩) hS23 ?_
  rotate_left
  · intro W' hSw; (try dsimp only at hSw); go_simp; try (with_reducible rfl)
  (try simp only [Act.put, List.getElem_toArray, List.getElem_cons_zero, List.getElem_cons_succ, List.setIfInBounds_toArray, List.set_cons_zero, List.set_cons_succ])
  refine wpAnyH_take (i := 32) (v := undef) rfl (by kernel_rfl) (by kernel_rfl) (by kernel_rfl) (fun _ _ _ h => h) (Or.inr ⟨by rfl, rfl⟩) hS23 ?_
  (try simp only [Act.put, List.getElem_toArray, List.getElem_cons_zero, List.getElem_cons_succ, List.setIfInBounds_toArray, List.set_cons_zero, List.set_cons_succ])
  refine wpAnyH_take (i := 33) (v := undef) rfl (by kernel_rfl) (by kernel_rfl) (by kernel_rfl) (fun _ _ _ h => h) (Or.inr ⟨by rfl, rfl⟩) hS23 ?_
  (try simp only [Act.put, List.getElem_toArray, List.getElem_cons_zero, List.getElem_cons_succ, List.setIfInBounds_toArray, List.set_cons_zero, List.set_cons_succ])
  refine wpAnyH_take (i := 34) (v := undef) rfl (by kernel_rfl) (by kernel_rfl) (by kernel_rfl) (fun _ _ _ h => h) (Or.inr ⟨by rfl, rfl⟩) hS23 ?_
  (try simp only [Act.put, List.getElem_toArray, List.getElem_cons_zero, List.getElem_cons_succ, List.setIfInBounds_toArray, List.set_cons_zero, List.set_cons_succ])
  refine wpAnyH_take (i := 35) (v := undef) rfl (by kernel_rfl) (by kernel_rfl) (by kernel_rfl) (fun _ _ _ h => h) (Or.inr ⟨by rfl, rfl⟩) hS23 ?_
  (try simp only [Act.put, List.getElem_toArray, List.getElem_cons_zero, List.getElem_cons_succ, List.setIfInBounds_toArray, List.set_cons_zero, List.set_cons_succ])
  refine wpAnyH_take (i := 36) (v := ?_) rfl (by kernel_rfl) (by kernel_rfl) (by kernel_rfl) (fun _ _ _ h => h) (Or.inl ⟨by rfl, ?_⟩) hS23 ?_
  rotate_left
  · intro W' hSw; (try dsimp only at hSw); go_simp; try (with_reducible rfl)
  (try simp only [Act.put, List.getElem_toArray, List.getElem_cons_zero, List.getElem_cons_succ, List.setIfInBounds_toArray, List.set_cons_zero, List.set_cons_succ])
  refine wpAnyH_take (i := 37) (v := ?_) rfl (by kernel_rfl) (by kernel_rfl) (by kernel_rfl) (fun _ _ _ h => h) (Or.inl ⟨by rfl, ?_⟩) hS23 ?_
  rotate_left
  · intro W' hSw; (try dsimp only at hSw); go_simp; try (with_reducible rfl)
  (try simp only [Act.put, List.getElem_toArray, List.getElem_cons_zero, List.getElem_cons_succ, List.setIfInBounds_toArray, List.set_cons_zero, List.set_cons_succ])
  refine wpAnyH_done (by kernel_rfl) ?_ _
  go_wp2_with fail
  go_ret
  exact ⟨by rw [HV.out]; rfl, sbox_below hS23⟩
set_option maxRecDepth 100000 in
set_option maxHeartbeats 8000000 in
theorem inst_yes (i : In) (n : Int) (A : Option Addr) (cap : Nat) (w : World) (h0 : 1 ≤ i.o) (h1 : i.o ≤ 16) (h2 : i.l.length ≤ 6) (hs : i.s.size < 9223372036854775808) (h : amongB n (usesI i) = true) (hn : nameB i.s = true) (hS : Ints w (.slice A i.l.length cap) i.l) (hl : i.l.length ≤ 9223372036854775807) :
    Calls Try.prog 83 #[inV i (.slice A i.l.length cap), .int .i64 n] w fun e w' => e = .returned (.bool (instB n i)) ∧ Below w.heap.size w w' := by
  obtain ⟨o, a, b, k, s, l⟩ := i
  have HV := Lib.hid (show instB n ⟨o, a, b, k, s, l⟩ = sameI ⟨o, a, b, k, s, l⟩ (askedI ⟨o, a, b, k, s, l⟩) by rw [inst_chain]; simp only at h h0 h1 h2 ⊢; simp [h0, h1, h2, h, hn])
  have HU := Lib.hid (fun (W : World) (hb : Below w.heap.size w W) => uses_any ⟨o, a, b, k, s, l⟩ _ W (hS.next hb) (by simp only at h2 ⊢; omega))
  have HA := Lib.hid (fun (W : World) (A2 : Option Addr) (c2 : Nat) (hI : Ints W (.slice A2 (usesI ⟨o, a, b, k, s, l⟩).length c2) (usesI ⟨o, a, b, k, s, l⟩)) => among_any n _ A2 _ c2 W hI (by have := uses_len ⟨o, a, b, k, s, l⟩ h2; omega))
  have HN := Lib.hid (fun (W : World) => mayName_any s W hs)
  have HH := Lib.hid (fun (W : World) => hasName_any o W)
  have HK := Lib.hid (fun (W : World) (hb : Below w.heap.size w W) => asked_any ⟨o, a, b, k, s, l⟩ A cap W (hS.next hb) (by simp only at h2 ⊢; omega))
  have HS := Lib.hid (fun (W : World) (A3 : Option Addr) (c3 : Nat) (hb : Below w.heap.size w W) (hI : Ints W (.slice A3 (askedI ⟨o, a, b, k, s, l⟩).l.length c3) (askedI ⟨o, a, b, k, s, l⟩).l) => sameInst_any ⟨o, a, b, k, s, l⟩ (askedI ⟨o, a, b, k, s, l⟩) A A3 cap c3 W (hS.next hb) hI hl)
  rw [h] at HA
  rw [show (decide (1 ≤ (s.size : Int)) && decide ((s.size : Int) ≤ 16)) = true from hn] at HN
  unfold inV at HU HK HS ⊢
  simp only at h0 h1 h2 hl HU HK HS ⊢
  have t0 : decide (1 ≤ o) = true := decide_eq_true h0
  have t1 : decide (o ≤ 16) = true := decide_eq_true h1
  have t2 : decide (l.length ≤ 6) = true := decide_eq_true h2
  have t3 : decide ((l.length : Int) ≤ 6) = true := decide_eq_true (by omega)
  clear hS HH hs hl h hn
  go_enter Try.func83, Try.ntmps83
  go_wp2_with fail
  obtain ⟨W, hW⟩ : ∃ W, W = w.alloc (.cells #[.int .i64 o, .int .i64 a, .int .i64 b, .int .u64 k, .string s, .slice A l.length cap] 76) := ⟨_, rfl⟩
  have hd := sbox_new w ⟨o, a, b, k, s, l⟩ (.slice A l.length cap) W hW
  simp only at hd
  rw [← hW]
  clear hW
  refine wp_region_held_drew (S := (fun W' => W'.cell? ⟨w.heap.size, 0, none⟩ = some (.int .i64 o) ∧ W'.cell? ⟨w.heap.size, 1, none⟩ = some (.int .i64 a) ∧ W'.cell? ⟨w.heap.size, 2, none⟩ = some (.int .i64 b) ∧ W'.cell? ⟨w.heap.size, 3, none⟩ = some (.int .u64 k) ∧ W'.cell? ⟨w.heap.size, 4, none⟩ = some (.string s) ∧ W'.cell? ⟨w.heap.size, 5, none⟩ = some (.slice A l.length cap) ∧ Below w.heap.size w W')) (by kernel_rfl) hd (fun hHeld => ?_)
  have hS0 := hd
  generalize W.drew = u0 at *
  refine wpAnyH_take (i := 0) (v := ?_) rfl (by kernel_rfl) (by kernel_rfl) (by kernel_rfl) (fun _ _ _ h => h) (Or.inl ⟨by rfl, ?_⟩) hS0 ?_
  rotate_left
  · intro W' hSw; (try dsimp only at hSw); go_simp; try (with_reducible rfl)
  (try simp only [Act.put, List.getElem_toArray, List.getElem_cons_zero, List.setIfInBounds_toArray, List.set_cons_zero, List.set_cons_succ])
  refine wpAnyH_take (i := 1) (v := ?_) rfl (by kernel_rfl) (by kernel_rfl) (by kernel_rfl) (fun _ _ _ h => h) (Or.inl ⟨by rfl, ?_⟩) hS0 ?_
  rotate_left
  · intro W' hSw; (try dsimp only at hSw); go_simp; try (with_reducible rfl)
  (try simp only [Act.put, List.getElem_toArray, List.getElem_cons_zero, List.getElem_cons_succ, List.setIfInBounds_toArray, List.set_cons_zero, List.set_cons_succ])
  refine wpAnyH_take (i := 2) (v := ?_) rfl (by kernel_rfl) (by kernel_rfl) (by kernel_rfl) (fun _ _ _ h => h) (Or.inl ⟨by rfl, ?_⟩) hS0 ?_
  rotate_left
  · intro W' hSw; (try dsimp only at hSw); go_simp; try (with_reducible rfl)
  (try simp only [Act.put, List.getElem_toArray, List.getElem_cons_zero, List.getElem_cons_succ, List.setIfInBounds_toArray, List.set_cons_zero, List.set_cons_succ])
  refine wpAnyH_take (i := 3) (v := ?_) rfl (by kernel_rfl) (by kernel_rfl) (by kernel_rfl) (fun _ _ _ h => h) (Or.inl ⟨by rfl, ?_⟩) hS0 ?_
  rotate_left
  · intro W' hSw; (try dsimp only at hSw); go_simp; try (with_reducible rfl)
  (try simp only [Act.put, List.getElem_toArray, List.getElem_cons_zero, List.getElem_cons_succ, List.setIfInBounds_toArray, List.set_cons_zero, List.set_cons_succ])
  refine wpAnyH_take (i := 4) (v := ?_) rfl (by kernel_rfl) (by kernel_rfl) (by kernel_rfl) (fun _ _ _ h => h) (Or.inl ⟨by rfl, ?_⟩) hS0 ?_
  rotate_left
  · intro W' hSw; (try dsimp only at hSw); go_simp; try (with_reducible rfl)
  (try simp only [Act.put, List.getElem_toArray, List.getElem_cons_zero, List.getElem_cons_succ, List.setIfInBounds_toArray, List.set_cons_zero, List.set_cons_succ])
  refine wpAnyH_take (i := 5) (v := ?_) rfl (by kernel_rfl) (by kernel_rfl) (by kernel_rfl) (fun _ _ _ h => h) (Or.inl ⟨by rfl, ?_⟩) hS0 ?_
  rotate_left
  · intro W' hSw; (try dsimp only at hSw); go_simp; try (with_reducible rfl)
  (try simp only [Act.put, List.getElem_toArray, List.getElem_cons_zero, List.getElem_cons_succ, List.setIfInBounds_toArray, List.set_cons_zero, List.set_cons_succ])
  refine wpAnyH_take (i := 6) (v := ?_) rfl (by kernel_rfl) (by kernel_rfl) (by kernel_rfl) (fun _ _ _ h => h) (Or.inl ⟨by rfl, ?_⟩) hS0 ?_
  rotate_left
  · intro W' hSw; (try dsimp only at hSw); go_simp; try (with_reducible rfl)
  (try simp only [Act.put, List.getElem_toArray, List.getElem_cons_zero, List.getElem_cons_succ, List.setIfInBounds_toArray, List.set_cons_zero, List.set_cons_succ])
  refine wpAnyH_take (i := 7) (v := ?_) rfl (by kernel_rfl) (by kernel_rfl) (by kernel_rfl) (fun _ _ _ h => h) (Or.inl ⟨by rfl, ?_⟩) hS0 ?_
  rotate_left
  · intro W' hSw; (try dsimp only at hSw); go_simp; try (with_reducible rfl)
  (try simp only [Act.put, List.getElem_toArray, List.getElem_cons_zero, List.getElem_cons_succ, List.setIfInBounds_toArray, List.set_cons_zero, List.set_cons_succ])
  refine wpAnyH_take (i := 8) (v := ?_) rfl (by kernel_rfl) (by kernel_rfl) (by kernel_rfl) (fun _ _ _ h => h) (Or.inl ⟨by rfl, ?_⟩) hS0 ?_
  rotate_left
  · intro W' hSw; (try dsimp only at hSw); go_simp; try (with_reducible rfl)
  (try simp only [Act.put, List.getElem_toArray, List.getElem_cons_zero, List.getElem_cons_succ, List.setIfInBounds_toArray, List.set_cons_zero, List.set_cons_succ])
  refine wpAnyH_take (i := 9) (v := ?_) rfl (by kernel_rfl) (by kernel_rfl) (by kernel_rfl) (fun _ _ _ h => h) (Or.inl ⟨by rfl, ?_⟩) hS0 ?_
  rotate_left
  · intro W' hSw; (try dsimp only at hSw); go_simp; try (with_reducible rfl)
  (try simp only [Act.put, List.getElem_toArray, List.getElem_cons_zero, List.getElem_cons_succ, List.setIfInBounds_toArray, List.set_cons_zero, List.set_cons_succ])
  refine wpAnyH_take (i := 10) (v := ?_) rfl (by kernel_rfl) (by kernel_rfl) (by kernel_rfl) (fun _ _ _ h => h) (Or.inl ⟨by rfl, ?_⟩) hS0 ?_
  rotate_left
  · intro W' hSw; (try dsimp only at hSw); go_simp; try (with_reducible rfl)
  (try simp only [Act.put, List.getElem_toArray, List.getElem_cons_zero, List.getElem_cons_succ, List.setIfInBounds_toArray, List.set_cons_zero, List.set_cons_succ])
  refine wpAnyH_take (i := 11) (v := ?_) rfl (by kernel_rfl) (by kernel_rfl) (by kernel_rfl) (fun _ _ _ h => h) (Or.inl ⟨by rfl, ?_⟩) hS0 ?_
  rotate_left
  · intro W' hSw; (try dsimp only at hSw); go_simp; try (with_reducible rfl)
  (try simp only [Act.put, List.getElem_toArray, List.getElem_cons_zero, List.getElem_cons_succ, List.setIfInBounds_toArray, List.set_cons_zero, List.set_cons_succ])
  refine wpAnyH_take (i := 12) (v := ?_) rfl (by kernel_rfl) (by kernel_rfl) (by kernel_rfl) (fun _ _ _ h => h) (Or.inl ⟨by rfl, ?_⟩) hS0 ?_
  rotate_left
  · intro W' hSw; (try dsimp only at hSw); go_simp; try (with_reducible rfl)
  (try simp only [Act.put, List.getElem_toArray, List.getElem_cons_zero, List.getElem_cons_succ, List.setIfInBounds_toArray, List.set_cons_zero, List.set_cons_succ])
  refine wpAnyH_take (i := 13) (v := ?_) rfl (by kernel_rfl) (by kernel_rfl) (by kernel_rfl) (fun _ _ _ h => h) (Or.inl ⟨by rfl, ?_⟩) hS0 ?_
  rotate_left
  · intro W' hSw; (try dsimp only at hSw); go_simp; try (with_reducible rfl)
  (try simp only [Act.put, List.getElem_toArray, List.getElem_cons_zero, List.getElem_cons_succ, List.setIfInBounds_toArray, List.set_cons_zero, List.set_cons_succ])
  refine wpAnyH_take (i := 14) (v := ?_) rfl (by kernel_rfl) (by kernel_rfl) (by kernel_rfl) (fun _ _ _ h => h) (Or.inl ⟨by rfl, ?_⟩) hS0 ?_
  rotate_left
  · intro W' hSw; (try dsimp only at hSw); go_simp; try (with_reducible rfl)
  (try simp only [Act.put, List.getElem_toArray, List.getElem_cons_zero, List.getElem_cons_succ, List.setIfInBounds_toArray, List.set_cons_zero, List.set_cons_succ])
  refine wpAnyH_take (i := 15) (v := ?_) rfl (by kernel_rfl) (by kernel_rfl) (by kernel_rfl) (fun _ _ _ h => h) (Or.inl ⟨by rfl, ?_⟩) hS0 ?_
  rotate_left
  · intro W' hSw; (try dsimp only at hSw); go_simp; try (with_reducible rfl)
  (try simp only [Act.put, List.getElem_toArray, List.getElem_cons_zero, List.getElem_cons_succ, List.setIfInBounds_toArray, List.set_cons_zero, List.set_cons_succ])
  refine wpAnyH_take (i := 16) (v := ?_) rfl (by kernel_rfl) (by kernel_rfl) (by kernel_rfl) (fun _ _ _ h => h) (Or.inl ⟨by rfl, ?_⟩) hS0 ?_
  rotate_left
  · intro W' hSw; (try dsimp only at hSw); go_simp; try (with_reducible rfl)
  (try simp only [Act.put, List.getElem_toArray, List.getElem_cons_zero, List.getElem_cons_succ, List.setIfInBounds_toArray, List.set_cons_zero, List.set_cons_succ])
  refine wpAnyH_ready (rs := [17]) (by kernel_rfl) (by simp) ?_
  refine AllReadyH.cons rfl (fun K hK => ?_) AllReadyH.nil
  (try refine want_call (by rfl) ?_)
  go_simp
  refine Calls.mono (HU.out _ (sbox_below hS0)) ?_
  rintro r w2 ⟨v2, rfl, ho2, hb2⟩
  have HI2 := Lib.hid ho2.ints
  obtain ⟨A2, c2, hv2⟩ := HI2.out.slice
  subst hv2
  clear ho2
  have hS22 := sbox_next hb2 hS0
  refine hK.out _ _ hS22 (fun hHeld => ?_)
  clear hK
  (try simp only [Act.put, List.getElem_toArray, List.getElem_cons_zero, List.getElem_cons_succ, List.setIfInBounds_toArray, List.set_cons_zero, List.set_cons_succ])
  refine wpAnyH_ready (rs := [18]) (by kernel_rfl) (by simp) ?_
  refine AllReadyH.cons rfl (fun K hK => ?_) AllReadyH.nil
  (try refine want_call (by rfl) ?_)
  go_simp
  refine Calls.mono (HA.out _ _ _ HI2.out) ?_
  rintro r w3 ⟨rfl, hb3⟩
  have hS23 := sbox_next hb3 hS22
  refine hK.out _ _ hS23 (fun hHeld => ?_)
  clear hK
  (try simp only [Act.put, List.getElem_toArray, List.getElem_cons_zero, List.getElem_cons_succ, List.setIfInBounds_toArray, List.set_cons_zero, List.set_cons_succ])
  refine wpAnyH_take (i := 19) (v := ?_) rfl (by kernel_rfl) (by kernel_rfl) (by kernel_rfl) (fun _ _ _ h => h) (Or.inl ⟨by rfl, ?_⟩) hS23 ?_
  rotate_left
  · intro W' hSw; (try dsimp only at hSw); go_simp; try (with_reducible rfl)
  (try simp only [Act.put, List.getElem_toArray, List.getElem_cons_zero, List.getElem_cons_succ, List.setIfInBounds_toArray, List.set_cons_zero, List.set_cons_succ])
  refine wpAnyH_take (i := 20) (v := ?_) rfl (by kernel_rfl) (by kernel_rfl) (by kernel_rfl) (fun _ _ _ h => h) (Or.inl ⟨by rfl, ?_⟩) hS23 ?_
  rotate_left
  · intro W' hSw; (try dsimp only at hSw); go_simp; try (with_reducible rfl)
  (try simp only [Act.put, List.getElem_toArray, List.getElem_cons_zero, List.getElem_cons_succ, List.setIfInBounds_toArray, List.set_cons_zero, List.set_cons_succ])
  refine wpAnyH_take (i := 21) (v := ?_) rfl (by kernel_rfl) (by kernel_rfl) (by kernel_rfl) (fun _ _ _ h => h) (Or.inl ⟨by rfl, ?_⟩) hS23 ?_
  rotate_left
  · intro W' hSw; (try dsimp only at hSw); go_simp; try (with_reducible rfl)
  (try simp only [Act.put, List.getElem_toArray, List.getElem_cons_zero, List.getElem_cons_succ, List.setIfInBounds_toArray, List.set_cons_zero, List.set_cons_succ])
  refine wpAnyH_take (i := 22) (v := ?_) rfl (by kernel_rfl) (by kernel_rfl) (by kernel_rfl) (fun _ _ _ h => h) (Or.inl ⟨by rfl, ?_⟩) hS23 ?_
  rotate_left
  · intro W' hSw; (try dsimp only at hSw); go_simp; try (with_reducible rfl)
  (try simp only [Act.put, List.getElem_toArray, List.getElem_cons_zero, List.getElem_cons_succ, List.setIfInBounds_toArray, List.set_cons_zero, List.set_cons_succ])
  refine wpAnyH_ready (rs := [23]) (by kernel_rfl) (by simp) ?_
  refine AllReadyH.cons rfl (fun K hK => ?_) AllReadyH.nil
  (try refine want_call (by rfl) ?_)
  go_simp
  refine Calls.mono (HN.out _) ?_
  rintro r w4 ⟨rfl, rfl⟩
  refine hK.out _ _ hS23 (fun hHeld => ?_)
  clear hK
  (try simp only [Act.put, List.getElem_toArray, List.getElem_cons_zero, List.getElem_cons_succ, List.setIfInBounds_toArray, List.set_cons_zero, List.set_cons_succ])
  refine wpAnyH_take (i := 24) (v := ?_) rfl (by kernel_rfl) (by kernel_rfl) (by kernel_rfl) (fun _ _ _ h => h) (Or.inl ⟨by rfl, ?_⟩) hS23 ?_
  rotate_left
  · intro W' hSw; (try dsimp only at hSw); go_simp; try (with_reducible rfl)
  (try simp only [Act.put, List.getElem_toArray, List.getElem_cons_zero, List.getElem_cons_succ, List.setIfInBounds_toArray, List.set_cons_zero, List.set_cons_succ])
  refine wpAnyH_take (i := 25) (v := undef) rfl (by kernel_rfl) (by kernel_rfl) (by kernel_rfl) (fun _ _ _ h => h) (Or.inr ⟨by rfl, rfl⟩) hS23 ?_
  (try simp only [Act.put, List.getElem_toArray, List.getElem_cons_zero, List.getElem_cons_succ, List.setIfInBounds_toArray, List.set_cons_zero, List.set_cons_succ])
  refine wpAnyH_take (i := 26) (v := undef) rfl (by kernel_rfl) (by kernel_rfl) (by kernel_rfl) (fun _ _ _ h => h) (Or.inr ⟨by rfl, rfl⟩) hS23 ?_
  (try simp only [Act.put, List.getElem_toArray, List.getElem_cons_zero, List.getElem_cons_succ, List.setIfInBounds_toArray, List.set_cons_zero, List.set_cons_succ])
  refine wpAnyH_take (i := 27) (v := undef) rfl (by kernel_rfl) (by kernel_rfl) (by kernel_rfl) (fun _ _ _ h => h) (Or.inr ⟨by rfl, rfl⟩) hS23 ?_
  (try simp only [Act.put, List.getElem_toArray, List.getElem_cons_zero, List.getElem_cons_succ, List.setIfInBounds_toArray, List.set_cons_zero, List.set_cons_succ])
  refine wpAnyH_take (i := 28) (v := undef) rfl (by kernel_rfl) (by kernel_rfl) (by kernel_rfl) (fun _ _ _ h => h) (Or.inr ⟨by rfl, rfl⟩) hS23 ?_
  (try simp only [Act.put, List.getElem_toArray, List.getElem_cons_zero, List.getElem_cons_succ, List.setIfInBounds_toArray, List.set_cons_zero, List.set_cons_succ])
  refine wpAnyH_take (i := 29) (v := ?_) rfl (by kernel_rfl) (by kernel_rfl) (by kernel_rfl) (fun _ _ _ h => h) (Or.inl ⟨by rfl, ?_⟩) hS23 ?_
  rotate_left
  · intro W' hSw; (try dsimp only at hSw); go_simp; try (with_reducible rfl)
  (try simp only [Act.put, List.getElem_toArray, List.getElem_cons_zero, List.getElem_cons_succ, List.setIfInBounds_toArray, List.set_cons_zero, List.set_cons_succ])
  refine wpAnyH_take (i := 30) (v := ?_) rfl (by kernel_rfl) (by kernel_rfl) (by kernel_rfl) (fun _ _ _ h => h) (Or.inl ⟨by rfl, ?_⟩) hS23 ?_
  rotate_left
  · intro W' hSw; (try dsimp only at hSw); go_simp; try (with_reducible rfl)
  (try simp only [Act.put, List.getElem_toArray, List.getElem_cons_zero, List.getElem_cons_succ, List.setIfInBounds_toArray, List.set_cons_zero, List.set_cons_succ])
  refine wpAnyH_take (i := 31) (v := ?_) rfl (by kernel_rfl) (by kernel_rfl) (by kernel_rfl) (fun _ _ _ h => h) (Or.inl ⟨by rfl, ?_⟩) hS23 ?_
  rotate_left
  · intro W' hSw; (try dsimp only at hSw); go_simp; try (with_reducible rfl)
  (try simp only [Act.put, List.getElem_toArray, List.getElem_cons_zero, List.getElem_cons_succ, List.setIfInBounds_toArray, List.set_cons_zero, List.set_cons_succ])
  refine wpAnyH_take (i := 32) (v := ?_) rfl (by kernel_rfl) (by kernel_rfl) (by kernel_rfl) (fun _ _ _ h => h) (Or.inl ⟨by rfl, ?_⟩) hS23 ?_
  rotate_left
  · intro W' hSw; (try dsimp only at hSw); go_simp; try (with_reducible rfl)
  (try simp only [Act.put, List.getElem_toArray, List.getElem_cons_zero, List.getElem_cons_succ, List.setIfInBounds_toArray, List.set_cons_zero, List.set_cons_succ])
  refine wpAnyH_take (i := 33) (v := ?_) rfl (by kernel_rfl) (by kernel_rfl) (by kernel_rfl) (fun _ _ _ h => h) (Or.inl ⟨by rfl, ?_⟩) hS23 ?_
  rotate_left
  · intro W' hSw; (try dsimp only at hSw); go_simp; try (with_reducible rfl)
  (try simp only [Act.put, List.getElem_toArray, List.getElem_cons_zero, List.getElem_cons_succ, List.setIfInBounds_toArray, List.set_cons_zero, List.set_cons_succ])
  refine wpAnyH_ready (rs := [34]) (by kernel_rfl) (by simp) ?_
  refine AllReadyH.cons rfl (fun K hK => ?_) AllReadyH.nil
  (try refine want_call (by rfl) ?_)
  go_simp
  refine Calls.mono (HK.out _ (sbox_below hS23)) ?_
  rintro r w6 ⟨v6, rfl, hi6, hb6⟩
  have HI6 := Lib.hid hi6
  obtain ⟨A6, c6, hv6⟩ := HI6.out.slice
  subst hv6
  clear hi6
  have hS39 := sbox_next hb6 hS23
  refine hK.out _ _ hS39 (fun hHeld => ?_)
  clear hK
  (try simp only [Act.put, List.getElem_toArray, List.getElem_cons_zero, List.getElem_cons_succ, List.setIfInBounds_toArray, List.set_cons_zero, List.set_cons_succ])
  refine wpAnyH_ready (rs := [35]) (by kernel_rfl) (by simp) ?_
  refine AllReadyH.cons rfl (fun K hK => ?_) AllReadyH.nil
  (try refine want_call (by rfl) ?_)
  go_simp
  refine Calls.mono (HS.out _ _ _ (sbox_below hS39) HI6.out) ?_
  rintro r w7 ⟨rfl, hb7⟩
  have hS40 := sbox_next hb7 hS39
  refine hK.out _ _ hS40 (fun hHeld => ?_)
  clear hK
  (try simp only [Act.put, List.getElem_toArray, List.getElem_cons_zero, List.getElem_cons_succ, List.setIfInBounds_toArray, List.set_cons_zero, List.set_cons_succ])
  refine wpAnyH_take (i := 36) (v := ?_) rfl (by kernel_rfl) (by kernel_rfl) (by kernel_rfl) (fun _ _ _ h => h) (Or.inl ⟨by rfl, ?_⟩) hS40 ?_
  rotate_left
  · intro W' hSw; (try dsimp only at hSw); go_simp; try (with_reducible rfl)
  (try simp only [Act.put, List.getElem_toArray, List.getElem_cons_zero, List.getElem_cons_succ, List.setIfInBounds_toArray, List.set_cons_zero, List.set_cons_succ])
  refine wpAnyH_take (i := 37) (v := ?_) rfl (by kernel_rfl) (by kernel_rfl) (by kernel_rfl) (fun _ _ _ h => h) (Or.inl ⟨by rfl, ?_⟩) hS40 ?_
  rotate_left
  · intro W' hSw; (try dsimp only at hSw); go_simp; try (with_reducible rfl)
  (try simp only [Act.put, List.getElem_toArray, List.getElem_cons_zero, List.getElem_cons_succ, List.setIfInBounds_toArray, List.set_cons_zero, List.set_cons_succ])
  refine wpAnyH_done (by kernel_rfl) ?_ _
  go_wp2_with fail
  go_ret
  exact ⟨by rw [HV.out]; rfl, sbox_below hS40⟩
set_option maxRecDepth 100000 in
set_option maxHeartbeats 8000000 in
theorem inst_non (i : In) (n : Int) (A : Option Addr) (cap : Nat) (w : World) (h0 : 1 ≤ i.o) (h1 : i.o ≤ 16) (h2 : i.l.length ≤ 6) (hs : i.s.size < 9223372036854775808) (h : amongB n (usesI i) = true) (hn : nameB i.s = false) (hh : hasB i.o = false) (hS : Ints w (.slice A i.l.length cap) i.l) (hl : i.l.length ≤ 9223372036854775807) :
    Calls Try.prog 83 #[inV i (.slice A i.l.length cap), .int .i64 n] w fun e w' => e = .returned (.bool (instB n i)) ∧ Below w.heap.size w w' := by
  obtain ⟨o, a, b, k, s, l⟩ := i
  have HV := Lib.hid (show instB n ⟨o, a, b, k, s, l⟩ = sameI ⟨o, a, b, k, s, l⟩ (askedI ⟨o, a, b, k, s, l⟩) by rw [inst_chain]; simp only at h h0 h1 h2 ⊢; simp [h0, h1, h2, h, hn, hh])
  have HU := Lib.hid (fun (W : World) (hb : Below w.heap.size w W) => uses_any ⟨o, a, b, k, s, l⟩ _ W (hS.next hb) (by simp only at h2 ⊢; omega))
  have HA := Lib.hid (fun (W : World) (A2 : Option Addr) (c2 : Nat) (hI : Ints W (.slice A2 (usesI ⟨o, a, b, k, s, l⟩).length c2) (usesI ⟨o, a, b, k, s, l⟩)) => among_any n _ A2 _ c2 W hI (by have := uses_len ⟨o, a, b, k, s, l⟩ h2; omega))
  have HN := Lib.hid (fun (W : World) => mayName_any s W hs)
  have HH := Lib.hid (fun (W : World) => hasName_any o W)
  have HK := Lib.hid (fun (W : World) (hb : Below w.heap.size w W) => asked_any ⟨o, a, b, k, s, l⟩ A cap W (hS.next hb) (by simp only at h2 ⊢; omega))
  have HS := Lib.hid (fun (W : World) (A3 : Option Addr) (c3 : Nat) (hb : Below w.heap.size w W) (hI : Ints W (.slice A3 (askedI ⟨o, a, b, k, s, l⟩).l.length c3) (askedI ⟨o, a, b, k, s, l⟩).l) => sameInst_any ⟨o, a, b, k, s, l⟩ (askedI ⟨o, a, b, k, s, l⟩) A A3 cap c3 W (hS.next hb) hI hl)
  rw [h] at HA
  rw [show (decide (1 ≤ (s.size : Int)) && decide ((s.size : Int) ≤ 16)) = false from hn] at HN
  rw [show (o == 12 || o == 13 || o == 14) = false from hh] at HH
  unfold inV at HU HK HS ⊢
  simp only at h0 h1 h2 hl HU HK HS ⊢
  have t0 : decide (1 ≤ o) = true := decide_eq_true h0
  have t1 : decide (o ≤ 16) = true := decide_eq_true h1
  have t2 : decide (l.length ≤ 6) = true := decide_eq_true h2
  have t3 : decide ((l.length : Int) ≤ 6) = true := decide_eq_true (by omega)
  clear hS hs hl h hn hh
  go_enter Try.func83, Try.ntmps83
  go_wp2_with fail
  obtain ⟨W, hW⟩ : ∃ W, W = w.alloc (.cells #[.int .i64 o, .int .i64 a, .int .i64 b, .int .u64 k, .string s, .slice A l.length cap] 76) := ⟨_, rfl⟩
  have hd := sbox_new w ⟨o, a, b, k, s, l⟩ (.slice A l.length cap) W hW
  simp only at hd
  rw [← hW]
  clear hW
  refine wp_region_held_drew (S := (fun W' => W'.cell? ⟨w.heap.size, 0, none⟩ = some (.int .i64 o) ∧ W'.cell? ⟨w.heap.size, 1, none⟩ = some (.int .i64 a) ∧ W'.cell? ⟨w.heap.size, 2, none⟩ = some (.int .i64 b) ∧ W'.cell? ⟨w.heap.size, 3, none⟩ = some (.int .u64 k) ∧ W'.cell? ⟨w.heap.size, 4, none⟩ = some (.string s) ∧ W'.cell? ⟨w.heap.size, 5, none⟩ = some (.slice A l.length cap) ∧ Below w.heap.size w W')) (by kernel_rfl) hd (fun hHeld => ?_)
  have hS0 := hd
  generalize W.drew = u0 at *
  refine wpAnyH_take (i := 0) (v := ?_) rfl (by kernel_rfl) (by kernel_rfl) (by kernel_rfl) (fun _ _ _ h => h) (Or.inl ⟨by rfl, ?_⟩) hS0 ?_
  rotate_left
  · intro W' hSw; (try dsimp only at hSw); go_simp; try (with_reducible rfl)
  (try simp only [Act.put, List.getElem_toArray, List.getElem_cons_zero, List.setIfInBounds_toArray, List.set_cons_zero, List.set_cons_succ])
  refine wpAnyH_take (i := 1) (v := ?_) rfl (by kernel_rfl) (by kernel_rfl) (by kernel_rfl) (fun _ _ _ h => h) (Or.inl ⟨by rfl, ?_⟩) hS0 ?_
  rotate_left
  · intro W' hSw; (try dsimp only at hSw); go_simp; try (with_reducible rfl)
  (try simp only [Act.put, List.getElem_toArray, List.getElem_cons_zero, List.getElem_cons_succ, List.setIfInBounds_toArray, List.set_cons_zero, List.set_cons_succ])
  refine wpAnyH_take (i := 2) (v := ?_) rfl (by kernel_rfl) (by kernel_rfl) (by kernel_rfl) (fun _ _ _ h => h) (Or.inl ⟨by rfl, ?_⟩) hS0 ?_
  rotate_left
  · intro W' hSw; (try dsimp only at hSw); go_simp; try (with_reducible rfl)
  (try simp only [Act.put, List.getElem_toArray, List.getElem_cons_zero, List.getElem_cons_succ, List.setIfInBounds_toArray, List.set_cons_zero, List.set_cons_succ])
  refine wpAnyH_take (i := 3) (v := ?_) rfl (by kernel_rfl) (by kernel_rfl) (by kernel_rfl) (fun _ _ _ h => h) (Or.inl ⟨by rfl, ?_⟩) hS0 ?_
  rotate_left
  · intro W' hSw; (try dsimp only at hSw); go_simp; try (with_reducible rfl)
  (try simp only [Act.put, List.getElem_toArray, List.getElem_cons_zero, List.getElem_cons_succ, List.setIfInBounds_toArray, List.set_cons_zero, List.set_cons_succ])
  refine wpAnyH_take (i := 4) (v := ?_) rfl (by kernel_rfl) (by kernel_rfl) (by kernel_rfl) (fun _ _ _ h => h) (Or.inl ⟨by rfl, ?_⟩) hS0 ?_
  rotate_left
  · intro W' hSw; (try dsimp only at hSw); go_simp; try (with_reducible rfl)
  (try simp only [Act.put, List.getElem_toArray, List.getElem_cons_zero, List.getElem_cons_succ, List.setIfInBounds_toArray, List.set_cons_zero, List.set_cons_succ])
  refine wpAnyH_take (i := 5) (v := ?_) rfl (by kernel_rfl) (by kernel_rfl) (by kernel_rfl) (fun _ _ _ h => h) (Or.inl ⟨by rfl, ?_⟩) hS0 ?_
  rotate_left
  · intro W' hSw; (try dsimp only at hSw); go_simp; try (with_reducible rfl)
  (try simp only [Act.put, List.getElem_toArray, List.getElem_cons_zero, List.getElem_cons_succ, List.setIfInBounds_toArray, List.set_cons_zero, List.set_cons_succ])
  refine wpAnyH_take (i := 6) (v := ?_) rfl (by kernel_rfl) (by kernel_rfl) (by kernel_rfl) (fun _ _ _ h => h) (Or.inl ⟨by rfl, ?_⟩) hS0 ?_
  rotate_left
  · intro W' hSw; (try dsimp only at hSw); go_simp; try (with_reducible rfl)
  (try simp only [Act.put, List.getElem_toArray, List.getElem_cons_zero, List.getElem_cons_succ, List.setIfInBounds_toArray, List.set_cons_zero, List.set_cons_succ])
  refine wpAnyH_take (i := 7) (v := ?_) rfl (by kernel_rfl) (by kernel_rfl) (by kernel_rfl) (fun _ _ _ h => h) (Or.inl ⟨by rfl, ?_⟩) hS0 ?_
  rotate_left
  · intro W' hSw; (try dsimp only at hSw); go_simp; try (with_reducible rfl)
  (try simp only [Act.put, List.getElem_toArray, List.getElem_cons_zero, List.getElem_cons_succ, List.setIfInBounds_toArray, List.set_cons_zero, List.set_cons_succ])
  refine wpAnyH_take (i := 8) (v := ?_) rfl (by kernel_rfl) (by kernel_rfl) (by kernel_rfl) (fun _ _ _ h => h) (Or.inl ⟨by rfl, ?_⟩) hS0 ?_
  rotate_left
  · intro W' hSw; (try dsimp only at hSw); go_simp; try (with_reducible rfl)
  (try simp only [Act.put, List.getElem_toArray, List.getElem_cons_zero, List.getElem_cons_succ, List.setIfInBounds_toArray, List.set_cons_zero, List.set_cons_succ])
  refine wpAnyH_take (i := 9) (v := ?_) rfl (by kernel_rfl) (by kernel_rfl) (by kernel_rfl) (fun _ _ _ h => h) (Or.inl ⟨by rfl, ?_⟩) hS0 ?_
  rotate_left
  · intro W' hSw; (try dsimp only at hSw); go_simp; try (with_reducible rfl)
  (try simp only [Act.put, List.getElem_toArray, List.getElem_cons_zero, List.getElem_cons_succ, List.setIfInBounds_toArray, List.set_cons_zero, List.set_cons_succ])
  refine wpAnyH_take (i := 10) (v := ?_) rfl (by kernel_rfl) (by kernel_rfl) (by kernel_rfl) (fun _ _ _ h => h) (Or.inl ⟨by rfl, ?_⟩) hS0 ?_
  rotate_left
  · intro W' hSw; (try dsimp only at hSw); go_simp; try (with_reducible rfl)
  (try simp only [Act.put, List.getElem_toArray, List.getElem_cons_zero, List.getElem_cons_succ, List.setIfInBounds_toArray, List.set_cons_zero, List.set_cons_succ])
  refine wpAnyH_take (i := 11) (v := ?_) rfl (by kernel_rfl) (by kernel_rfl) (by kernel_rfl) (fun _ _ _ h => h) (Or.inl ⟨by rfl, ?_⟩) hS0 ?_
  rotate_left
  · intro W' hSw; (try dsimp only at hSw); go_simp; try (with_reducible rfl)
  (try simp only [Act.put, List.getElem_toArray, List.getElem_cons_zero, List.getElem_cons_succ, List.setIfInBounds_toArray, List.set_cons_zero, List.set_cons_succ])
  refine wpAnyH_take (i := 12) (v := ?_) rfl (by kernel_rfl) (by kernel_rfl) (by kernel_rfl) (fun _ _ _ h => h) (Or.inl ⟨by rfl, ?_⟩) hS0 ?_
  rotate_left
  · intro W' hSw; (try dsimp only at hSw); go_simp; try (with_reducible rfl)
  (try simp only [Act.put, List.getElem_toArray, List.getElem_cons_zero, List.getElem_cons_succ, List.setIfInBounds_toArray, List.set_cons_zero, List.set_cons_succ])
  refine wpAnyH_take (i := 13) (v := ?_) rfl (by kernel_rfl) (by kernel_rfl) (by kernel_rfl) (fun _ _ _ h => h) (Or.inl ⟨by rfl, ?_⟩) hS0 ?_
  rotate_left
  · intro W' hSw; (try dsimp only at hSw); go_simp; try (with_reducible rfl)
  (try simp only [Act.put, List.getElem_toArray, List.getElem_cons_zero, List.getElem_cons_succ, List.setIfInBounds_toArray, List.set_cons_zero, List.set_cons_succ])
  refine wpAnyH_take (i := 14) (v := ?_) rfl (by kernel_rfl) (by kernel_rfl) (by kernel_rfl) (fun _ _ _ h => h) (Or.inl ⟨by rfl, ?_⟩) hS0 ?_
  rotate_left
  · intro W' hSw; (try dsimp only at hSw); go_simp; try (with_reducible rfl)
  (try simp only [Act.put, List.getElem_toArray, List.getElem_cons_zero, List.getElem_cons_succ, List.setIfInBounds_toArray, List.set_cons_zero, List.set_cons_succ])
  refine wpAnyH_take (i := 15) (v := ?_) rfl (by kernel_rfl) (by kernel_rfl) (by kernel_rfl) (fun _ _ _ h => h) (Or.inl ⟨by rfl, ?_⟩) hS0 ?_
  rotate_left
  · intro W' hSw; (try dsimp only at hSw); go_simp; try (with_reducible rfl)
  (try simp only [Act.put, List.getElem_toArray, List.getElem_cons_zero, List.getElem_cons_succ, List.setIfInBounds_toArray, List.set_cons_zero, List.set_cons_succ])
  refine wpAnyH_take (i := 16) (v := ?_) rfl (by kernel_rfl) (by kernel_rfl) (by kernel_rfl) (fun _ _ _ h => h) (Or.inl ⟨by rfl, ?_⟩) hS0 ?_
  rotate_left
  · intro W' hSw; (try dsimp only at hSw); go_simp; try (with_reducible rfl)
  (try simp only [Act.put, List.getElem_toArray, List.getElem_cons_zero, List.getElem_cons_succ, List.setIfInBounds_toArray, List.set_cons_zero, List.set_cons_succ])
  refine wpAnyH_ready (rs := [17]) (by kernel_rfl) (by simp) ?_
  refine AllReadyH.cons rfl (fun K hK => ?_) AllReadyH.nil
  (try refine want_call (by rfl) ?_)
  go_simp
  refine Calls.mono (HU.out _ (sbox_below hS0)) ?_
  rintro r w2 ⟨v2, rfl, ho2, hb2⟩
  have HI2 := Lib.hid ho2.ints
  obtain ⟨A2, c2, hv2⟩ := HI2.out.slice
  subst hv2
  clear ho2
  have hS22 := sbox_next hb2 hS0
  refine hK.out _ _ hS22 (fun hHeld => ?_)
  clear hK
  (try simp only [Act.put, List.getElem_toArray, List.getElem_cons_zero, List.getElem_cons_succ, List.setIfInBounds_toArray, List.set_cons_zero, List.set_cons_succ])
  refine wpAnyH_ready (rs := [18]) (by kernel_rfl) (by simp) ?_
  refine AllReadyH.cons rfl (fun K hK => ?_) AllReadyH.nil
  (try refine want_call (by rfl) ?_)
  go_simp
  refine Calls.mono (HA.out _ _ _ HI2.out) ?_
  rintro r w3 ⟨rfl, hb3⟩
  have hS23 := sbox_next hb3 hS22
  refine hK.out _ _ hS23 (fun hHeld => ?_)
  clear hK
  (try simp only [Act.put, List.getElem_toArray, List.getElem_cons_zero, List.getElem_cons_succ, List.setIfInBounds_toArray, List.set_cons_zero, List.set_cons_succ])
  refine wpAnyH_take (i := 19) (v := ?_) rfl (by kernel_rfl) (by kernel_rfl) (by kernel_rfl) (fun _ _ _ h => h) (Or.inl ⟨by rfl, ?_⟩) hS23 ?_
  rotate_left
  · intro W' hSw; (try dsimp only at hSw); go_simp; try (with_reducible rfl)
  (try simp only [Act.put, List.getElem_toArray, List.getElem_cons_zero, List.getElem_cons_succ, List.setIfInBounds_toArray, List.set_cons_zero, List.set_cons_succ])
  refine wpAnyH_take (i := 20) (v := ?_) rfl (by kernel_rfl) (by kernel_rfl) (by kernel_rfl) (fun _ _ _ h => h) (Or.inl ⟨by rfl, ?_⟩) hS23 ?_
  rotate_left
  · intro W' hSw; (try dsimp only at hSw); go_simp; try (with_reducible rfl)
  (try simp only [Act.put, List.getElem_toArray, List.getElem_cons_zero, List.getElem_cons_succ, List.setIfInBounds_toArray, List.set_cons_zero, List.set_cons_succ])
  refine wpAnyH_take (i := 21) (v := ?_) rfl (by kernel_rfl) (by kernel_rfl) (by kernel_rfl) (fun _ _ _ h => h) (Or.inl ⟨by rfl, ?_⟩) hS23 ?_
  rotate_left
  · intro W' hSw; (try dsimp only at hSw); go_simp; try (with_reducible rfl)
  (try simp only [Act.put, List.getElem_toArray, List.getElem_cons_zero, List.getElem_cons_succ, List.setIfInBounds_toArray, List.set_cons_zero, List.set_cons_succ])
  refine wpAnyH_take (i := 22) (v := ?_) rfl (by kernel_rfl) (by kernel_rfl) (by kernel_rfl) (fun _ _ _ h => h) (Or.inl ⟨by rfl, ?_⟩) hS23 ?_
  rotate_left
  · intro W' hSw; (try dsimp only at hSw); go_simp; try (with_reducible rfl)
  (try simp only [Act.put, List.getElem_toArray, List.getElem_cons_zero, List.getElem_cons_succ, List.setIfInBounds_toArray, List.set_cons_zero, List.set_cons_succ])
  refine wpAnyH_ready (rs := [23]) (by kernel_rfl) (by simp) ?_
  refine AllReadyH.cons rfl (fun K hK => ?_) AllReadyH.nil
  (try refine want_call (by rfl) ?_)
  go_simp
  refine Calls.mono (HN.out _) ?_
  rintro r w4 ⟨rfl, rfl⟩
  refine hK.out _ _ hS23 (fun hHeld => ?_)
  clear hK
  (try simp only [Act.put, List.getElem_toArray, List.getElem_cons_zero, List.getElem_cons_succ, List.setIfInBounds_toArray, List.set_cons_zero, List.set_cons_succ])
  refine wpAnyH_take (i := 24) (v := ?_) rfl (by kernel_rfl) (by kernel_rfl) (by kernel_rfl) (fun _ _ _ h => h) (Or.inl ⟨by rfl, ?_⟩) hS23 ?_
  rotate_left
  · intro W' hSw; (try dsimp only at hSw); go_simp; try (with_reducible rfl)
  (try simp only [Act.put, List.getElem_toArray, List.getElem_cons_zero, List.getElem_cons_succ, List.setIfInBounds_toArray, List.set_cons_zero, List.set_cons_succ])
  refine wpAnyH_take (i := 25) (v := ?_) rfl (by kernel_rfl) (by kernel_rfl) (by kernel_rfl) (fun _ _ _ h => h) (Or.inl ⟨by rfl, ?_⟩) hS23 ?_
  rotate_left
  · intro W' hSw; (try dsimp only at hSw); go_simp; try (with_reducible rfl)
  (try simp only [Act.put, List.getElem_toArray, List.getElem_cons_zero, List.getElem_cons_succ, List.setIfInBounds_toArray, List.set_cons_zero, List.set_cons_succ])
  refine wpAnyH_take (i := 26) (v := ?_) rfl (by kernel_rfl) (by kernel_rfl) (by kernel_rfl) (fun _ _ _ h => h) (Or.inl ⟨by rfl, ?_⟩) hS23 ?_
  rotate_left
  · intro W' hSw; (try dsimp only at hSw); go_simp; try (with_reducible rfl)
  (try simp only [Act.put, List.getElem_toArray, List.getElem_cons_zero, List.getElem_cons_succ, List.setIfInBounds_toArray, List.set_cons_zero, List.set_cons_succ])
  refine wpAnyH_ready (rs := [27]) (by kernel_rfl) (by simp) ?_
  refine AllReadyH.cons rfl (fun K hK => ?_) AllReadyH.nil
  (try refine want_call (by rfl) ?_)
  go_simp
  refine Calls.mono (HH.out _) ?_
  rintro r w5 ⟨rfl, rfl⟩
  refine hK.out _ _ hS23 (fun hHeld => ?_)
  clear hK
  (try simp only [Act.put, List.getElem_toArray, List.getElem_cons_zero, List.getElem_cons_succ, List.setIfInBounds_toArray, List.set_cons_zero, List.set_cons_succ])
  refine wpAnyH_take (i := 28) (v := ?_) rfl (by kernel_rfl) (by kernel_rfl) (by kernel_rfl) (fun _ _ _ h => h) (Or.inl ⟨by rfl, ?_⟩) hS23 ?_
  rotate_left
  · intro W' hSw; (try dsimp only at hSw); go_simp; try (with_reducible rfl)
  (try simp only [Act.put, List.getElem_toArray, List.getElem_cons_zero, List.getElem_cons_succ, List.setIfInBounds_toArray, List.set_cons_zero, List.set_cons_succ])
  refine wpAnyH_take (i := 29) (v := ?_) rfl (by kernel_rfl) (by kernel_rfl) (by kernel_rfl) (fun _ _ _ h => h) (Or.inl ⟨by rfl, ?_⟩) hS23 ?_
  rotate_left
  · intro W' hSw; (try dsimp only at hSw); go_simp; try (with_reducible rfl)
  (try simp only [Act.put, List.getElem_toArray, List.getElem_cons_zero, List.getElem_cons_succ, List.setIfInBounds_toArray, List.set_cons_zero, List.set_cons_succ])
  refine wpAnyH_take (i := 30) (v := ?_) rfl (by kernel_rfl) (by kernel_rfl) (by kernel_rfl) (fun _ _ _ h => h) (Or.inl ⟨by rfl, ?_⟩) hS23 ?_
  rotate_left
  · intro W' hSw; (try dsimp only at hSw); go_simp; try (with_reducible rfl)
  (try simp only [Act.put, List.getElem_toArray, List.getElem_cons_zero, List.getElem_cons_succ, List.setIfInBounds_toArray, List.set_cons_zero, List.set_cons_succ])
  refine wpAnyH_take (i := 31) (v := ?_) rfl (by kernel_rfl) (by kernel_rfl) (by kernel_rfl) (fun _ _ _ h => h) (Or.inl ⟨by rfl, ?_⟩) hS23 ?_
  rotate_left
  · intro W' hSw; (try dsimp only at hSw); go_simp; try (with_reducible rfl)
  (try simp only [Act.put, List.getElem_toArray, List.getElem_cons_zero, List.getElem_cons_succ, List.setIfInBounds_toArray, List.set_cons_zero, List.set_cons_succ])
  refine wpAnyH_take (i := 32) (v := ?_) rfl (by kernel_rfl) (by kernel_rfl) (by kernel_rfl) (fun _ _ _ h => h) (Or.inl ⟨by rfl, ?_⟩) hS23 ?_
  rotate_left
  · intro W' hSw; (try dsimp only at hSw); go_simp; try (with_reducible rfl)
  (try simp only [Act.put, List.getElem_toArray, List.getElem_cons_zero, List.getElem_cons_succ, List.setIfInBounds_toArray, List.set_cons_zero, List.set_cons_succ])
  refine wpAnyH_take (i := 33) (v := ?_) rfl (by kernel_rfl) (by kernel_rfl) (by kernel_rfl) (fun _ _ _ h => h) (Or.inl ⟨by rfl, ?_⟩) hS23 ?_
  rotate_left
  · intro W' hSw; (try dsimp only at hSw); go_simp; try (with_reducible rfl)
  (try simp only [Act.put, List.getElem_toArray, List.getElem_cons_zero, List.getElem_cons_succ, List.setIfInBounds_toArray, List.set_cons_zero, List.set_cons_succ])
  refine wpAnyH_ready (rs := [34]) (by kernel_rfl) (by simp) ?_
  refine AllReadyH.cons rfl (fun K hK => ?_) AllReadyH.nil
  (try refine want_call (by rfl) ?_)
  go_simp
  refine Calls.mono (HK.out _ (sbox_below hS23)) ?_
  rintro r w6 ⟨v6, rfl, hi6, hb6⟩
  have HI6 := Lib.hid hi6
  obtain ⟨A6, c6, hv6⟩ := HI6.out.slice
  subst hv6
  clear hi6
  have hS39 := sbox_next hb6 hS23
  refine hK.out _ _ hS39 (fun hHeld => ?_)
  clear hK
  (try simp only [Act.put, List.getElem_toArray, List.getElem_cons_zero, List.getElem_cons_succ, List.setIfInBounds_toArray, List.set_cons_zero, List.set_cons_succ])
  refine wpAnyH_ready (rs := [35]) (by kernel_rfl) (by simp) ?_
  refine AllReadyH.cons rfl (fun K hK => ?_) AllReadyH.nil
  (try refine want_call (by rfl) ?_)
  go_simp
  refine Calls.mono (HS.out _ _ _ (sbox_below hS39) HI6.out) ?_
  rintro r w7 ⟨rfl, hb7⟩
  have hS40 := sbox_next hb7 hS39
  refine hK.out _ _ hS40 (fun hHeld => ?_)
  clear hK
  (try simp only [Act.put, List.getElem_toArray, List.getElem_cons_zero, List.getElem_cons_succ, List.setIfInBounds_toArray, List.set_cons_zero, List.set_cons_succ])
  refine wpAnyH_take (i := 36) (v := ?_) rfl (by kernel_rfl) (by kernel_rfl) (by kernel_rfl) (fun _ _ _ h => h) (Or.inl ⟨by rfl, ?_⟩) hS40 ?_
  rotate_left
  · intro W' hSw; (try dsimp only at hSw); go_simp; try (with_reducible rfl)
  (try simp only [Act.put, List.getElem_toArray, List.getElem_cons_zero, List.getElem_cons_succ, List.setIfInBounds_toArray, List.set_cons_zero, List.set_cons_succ])
  refine wpAnyH_take (i := 37) (v := ?_) rfl (by kernel_rfl) (by kernel_rfl) (by kernel_rfl) (fun _ _ _ h => h) (Or.inl ⟨by rfl, ?_⟩) hS40 ?_
  rotate_left
  · intro W' hSw; (try dsimp only at hSw); go_simp; try (with_reducible rfl)
  (try simp only [Act.put, List.getElem_toArray, List.getElem_cons_zero, List.getElem_cons_succ, List.setIfInBounds_toArray, List.set_cons_zero, List.set_cons_succ])
  refine wpAnyH_done (by kernel_rfl) ?_ _
  go_wp2_with fail
  go_ret
  exact ⟨by rw [HV.out]; rfl, sbox_below hS40⟩
/-- ir.Inst, of every instruction -/
theorem inst_any (i : In) (n : Int) (A : Option Addr) (cap : Nat) (w : World) (hS : Ints w (.slice A i.l.length cap) i.l) (hl : i.l.length ≤ 9223372036854775807) (hs : i.s.size < 9223372036854775808) :
    Calls Try.prog 83 #[inV i (.slice A i.l.length cap), .int .i64 n] w fun e w' => e = .returned (.bool (instB n i)) ∧ Below w.heap.size w w' := by
  by_cases h0 : 1 ≤ i.o
  case neg => exact inst_lo i n A cap w h0 hS hl
  by_cases h1 : i.o ≤ 16
  case neg => exact inst_hi i n A cap w h0 h1 hS hl
  by_cases h2 : i.l.length ≤ 6
  case neg => exact inst_len i n A cap w h0 h1 h2 hS hl
  cases h : amongB n (usesI i) with
  | false => exact inst_am i n A cap w h0 h1 h2 hs h hS hl
  | true =>
    cases hn : nameB i.s with
    | true => exact inst_yes i n A cap w h0 h1 h2 hs h hn hS hl
    | false =>
      cases hh : hasB i.o with
      | true => exact inst_nm i n A cap w h0 h1 h2 hs h hn hh hS hl
      | false => exact inst_non i n A cap w h0 h1 h2 hs h hn hh hS hl
end Go.Proofs.Ytjldddpchiaalaa
