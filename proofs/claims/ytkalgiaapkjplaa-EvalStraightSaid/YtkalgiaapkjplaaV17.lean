/- Package eval: a run goes on till it is over. -/
import Derived.Test.YtkalgiaapkjplaaVD
import Derived.Deep.LoopGhost
import Derived.WalkMore
namespace Go.Proofs.Ytkalgiaapkjplaa
open Go.RowKit

/-- what goOn leaves -/
def GoPost (W0 : World) (m : Md) (inp : ByteArray) (R : Nat) (RES : Rs × Int) (L0 : Lay) (w : World) (e : Ending) (w' : World) : Prop :=
  e = .returned (.int .i64 RES.2) ∧ ∃ L', RunOk W0 m inp R L' RES.1 w' ∧ Fr L0 w w' L'
set_option maxRecDepth 100000 in
set_option maxHeartbeats 16000000 in
theorem goOn_any {W0 : World} {m : Md} {inp : ByteArray} {R : Nat} {L : Lay} {s : Rs} (dp fuel : Nat) (w : World) (hm : RightM m) (h : RunOk W0 m inp R L s w) (hg : Good m s) (hb : Bnd inp dp fuel s) (hd : dp ≤ 64) (hf : fuel ≤ 100000) (hin : inp.size < 9223372036854775808) :
    Calls Try.prog 64 #[.pointer (some ⟨R, 0, none⟩), .int .i64 fuel, .int .i64 dp] w (GoPost W0 m inp R (runE m inp dp (fuel - s.steps) s) L w) := by
  obtain ⟨RES, hres⟩ : ∃ x, runE m inp dp (fuel - s.steps) s = x := ⟨_, rfl⟩
  rw [hres]
  obtain ⟨hB2, cb3, cb4'⟩ := two_boxes w (.pointer (some ⟨R, 0, none⟩)) #[.int .i64 fuel] 131 3
  have cb4 := cb4' 0
  simp only [List.getElem?_toArray, List.getElem?_cons_zero] at cb4
  have HG0 := Lib.hid (show Runs W0 m inp R w.heap.size (w.heap.size + 1) dp fuel RES L w L s ((w.alloc (.cells #[.pointer (some ⟨R, 0, none⟩)] 131)).alloc (.cells #[.int .i64 fuel] 3)) from
    { ok := h.quiet hB2, good := hg, bnd := hb, l3 := h.high _ (Nat.le_refl _), l4 := h.high _ (by omega), c3 := cb3, c4 := cb4, fr := fr_quiet hB2, res := hres })
  obtain ⟨W2, hW2⟩ : ∃ W, ((w.alloc (.cells #[.pointer (some ⟨R, 0, none⟩)] 131)).alloc (.cells #[.int .i64 fuel] 3)) = W := ⟨_, rfl⟩
  rw [hW2] at HG0
  obtain ⟨B3, hB3⟩ : ∃ x, w.heap.size = x := ⟨_, rfl⟩
  rw [hB3] at HG0
  obtain ⟨B4, hB4⟩ : ∃ x, B3 + 1 = x := ⟨_, rfl⟩
  rw [hB4] at HG0
  have HM := Lib.hid hm
  have HD := Lib.hid hd
  have HF := Lib.hid hf
  have HIN := Lib.hid hin
  have f9 : (fuel : Int) ≤ 100000 := by omega
  have p9 : (dp : Int) ≤ 64 := by omega
  clear hB2 cb3 cb4 cb4' h hg hb hm hd hf hin hres
  go_enter Try.func64, Try.ntmps64
  go_wp2_with fail
  go_step3
  go_wp2_with fail
  go_step3
  go_wp2_with fail
  clear hW2 hB3 hB4
  go_loopg [8] (fuel - s.steps) (fun g _ wr => ∃ L' s', Runs W0 m inp R B3 B4 dp fuel RES L w L' s' wr ∧ s'.steps + g = fuel)
  case atStart => exact ⟨_, _, HG0.out, by have := HG0.out.bnd.st; omega⟩
  case round =>
    obtain ⟨L1, s1, h1, hgk⟩ := hrel
    obtain ⟨g1, eg1⟩ : ∃ x, x = gk := ⟨_, rfl⟩
    subst eg1
    have H1 := Lib.hid h1
    have cr := h1.c3
    by_cases hgs0 : L1.gs = []
    case pos =>
      have hop := h1.ok.hop
      rw [hgs0] at hop
      obtain ⟨A0, cap0, hopv⟩ : ∃ A cap, L1.opv = .slice A 0 cap := by
        rcases hop.2 with ⟨e, _⟩ | ⟨g, cap, cur, e, _⟩
        · exact ⟨_, _, e⟩
        · exact ⟨_, _, e⟩
      have c10 : wr.cell? ⟨R, 10, none⟩ = some (.slice A0 0 cap0) := by rw [rcell h1.ok 10, ← hopv]; rfl
      have HE := Lib.hid (show GoPost W0 m inp R RES L w (.returned (.int .i64 0)) wr by
        have hcs := h1.ok.hcs
        rw [hgs0] at hcs
        have e : runE m inp dp (fuel - s1.steps) s1 = (s1, 0) := by
          have hcs' : s1.cs = [] := by simpa using hcs
          cases hn : fuel - s1.steps with
          | zero => unfold runE; rw [hcs']
          | succ n => unfold runE; rw [hcs']
        have hr := h1.res
        rw [e] at hr
        rw [← hr]
        exact ⟨rfl, L1, h1.ok, h1.fr⟩)
      clear h1 hgk hgs0 hop hopv
      go_wp2_with fail
      try rw [Exit.noGoto_ret]
      go_ret
      exact HE.out
    obtain ⟨pre, y, hgs⟩ : ∃ pre y, L1.gs = pre ++ [y] := by
      rcases List.eq_nil_or_concat L1.gs with e | ⟨l, x, e⟩
      · exact absurd e hgs0
      · exact ⟨l, x, by rw [e]; simp⟩
    obtain ⟨og, ocap, hopv, hl4, hogl, hc1, hc2, hop, hcs, hv, hl6, hgl⟩ := top_at h1.ok hgs
    obtain ⟨np, hnp⟩ : ∃ n, pre.length = n := ⟨_, rfl⟩
    have c10 : wr.cell? ⟨R, 10, none⟩ = some (.slice (some ⟨og, 0, none⟩) (np + 1) ocap) := by rw [rcell h1.ok 10, ← hnp, ← hopv]; rfl
    have hlen : pre.length + 1 ≤ dp := by
      have h2 := h1.bnd.cl
      have h3 := h1.ok.hcs
      rw [hgs] at h3
      rw [h3] at h2
      simpa using h2
    have hdp := HD.out
    have n64 : (np : Int) ≤ 63 := by omega
    have n0 : (0 : Int) ≤ (np : Int) := by omega
    have hpos : (0 : Int) < (np : Int) + 1 := by omega
    have hln : (np : Int) < (np : Int) + 1 := by omega
    have hwn : IntKind.i64.wrap (np : Int) = (np : Int) := by rw [IntKind.wrap_i64]; omega
    have HTG := Lib.hid (good_top HM.out (show GoodC m true y.c from by
      have h2 := h1.good.cs
      have h3 := h1.ok.hcs
      rw [hgs] at h3
      rw [show s1.cs = y.c :: (pre.map (·.c)).reverse from by rw [h3]; simp] at h2
      exact h2.1))
    have HCS := Lib.hid (show s1.cs = y.c :: (pre.map (·.c)).reverse by rw [h1.ok.hcs, hgs]; simp)
    have hB := (h1.ok.hb y (by rw [hgs]; simp)).1
    obtain ⟨f, b, hf, hbs, hbk, hbm, -⟩ := id HTG.out
    have hk := (List.getElem?_eq_some_iff.1 hbk).1
    obtain ⟨A', bc, e'⟩ := RowOf.slice hB
    rw [e'] at hB
    obtain ⟨bb, bo, hA', hbl, hBk⟩ := RowOf.at_ hB hk
    subst hA'
    rw [(List.getElem?_eq_some_iff.1 hbk).2] at hBk
    have HBK := Lib.hid (show bb < W0.heap.size ∧ y.c.bs[y.c.k]? = some b ∧ f ∈ m.f ∧ y.c.bs = f.l ∧ b ∈ f.l from ⟨hbl, hbk, hf, hbs, hbm⟩)
    have q0 := (hcs 0 (by decide)).1
    have q1 := (hcs 1 (by decide)).1
    rw [hnp] at q0 q1
    simp only [gcV, Nat.add_zero, List.getElem?_cons_zero, List.getElem?_cons_succ] at q0 q1
    rw [e'] at q0
    obtain ⟨a0, ⟨Ai, ci, a1, hI⟩, a2, a3, a4, ⟨Al, cl, a5, hIl⟩, a6, Am, cm, a7, hIm⟩ := hBk
    have nW : ∀ o x, W0.cell? ⟨bb, o, none⟩ = some x → wr.cell? ⟨bb, o, none⟩ = some x := fun o x hx => (cellNext hbl h1.ok.bel o).trans hx
    have bb0 := nW _ _ a0
    have bb1 := nW _ _ a1
    have bb2 := nW _ _ a2
    have bb3 := nW _ _ a3
    have bb4 := nW _ _ a4
    have bb5 := nW _ _ a5
    have bb6 := nW _ _ a6
    have bb7 := nW _ _ a7
    clear a0 a1 a2 a3 a4 a5 a6 a7 nW
    obtain ⟨k, hkk⟩ : ∃ x, y.c.k = x := ⟨_, rfl⟩
    obtain ⟨nb, hnb⟩ : ∃ x, y.c.bs.length = x := ⟨_, rfl⟩
    obtain ⟨xp, hxp⟩ : ∃ x, b.p = x := ⟨_, rfl⟩
    obtain ⟨xi, hxi⟩ : ∃ x, b.i.length = x := ⟨_, rfl⟩
    obtain ⟨xk, hxk⟩ : ∃ x, b.e.k = x := ⟨_, rfl⟩
    obtain ⟨xa, hxa⟩ : ∃ x, b.e.a = x := ⟨_, rfl⟩
    obtain ⟨xt, hxt⟩ : ∃ x, b.e.t = x := ⟨_, rfl⟩
    obtain ⟨xl, hxl⟩ : ∃ x, b.e.l.length = x := ⟨_, rfl⟩
    obtain ⟨xe, hxe⟩ : ∃ x, b.e.e = x := ⟨_, rfl⟩
    obtain ⟨xm, hxm⟩ : ∃ x, b.e.m.length = x := ⟨_, rfl⟩
    rw [hxi] at bb1 hI
    rw [hxl] at bb5 hIl
    rw [hxm] at bb7 hIm
    rw [hkk] at bb0 bb1 bb2 bb3 bb4 bb5 bb6 bb7 q1 hk
    rw [hxp] at bb0
    rw [hxk] at bb2
    rw [hxa] at bb3
    rw [hxt] at bb4
    rw [hxe] at bb6
    rw [hnb] at q0 hk
    have HROWS := Lib.hid (show Insts W0 (.slice Ai xi ci) b.i ∧ Ints W0 (.slice Al xl cl) b.e.l ∧ Ints W0 (.slice Am xm cm) b.e.m from ⟨hI, hIl, hIm⟩)
    have HEQ := Lib.hid (show (pre.length ≤ np ∧ np ≤ pre.length) ∧ (y.c.k ≤ k ∧ k ≤ y.c.k) ∧ (b.i.length ≤ xi ∧ xi ≤ b.i.length) ∧ (b.e.l.length ≤ xl ∧ xl ≤ b.e.l.length) ∧ (b.e.m.length ≤ xm ∧ xm ≤ b.e.m.length) by omega)
    have HTM := Lib.hid (show (⟨xk, xa, xt, b.e.l, xe, b.e.m⟩ : Tm) = b.e ∧ True by rw [← hxk, ← hxa, ← hxt, ← hxe]; exact ⟨rfl, trivial⟩)
    have HOP := Lib.hid (show L1.gs = pre ++ [y] ∧ L1.opv = .slice (some ⟨og, 0, none⟩) (np + 1) ocap ∧ L1.lab og = 4 from ⟨hgs, by rw [hopv, hnp], hl4⟩)
    have HGK := Lib.hid hgk
    have HLD := Lib.hid hlen
    have k0 : (0 : Int) ≤ (k : Int) := by omega
    have k1 : (k : Int) < (nb : Int) := by omega
    clear h1 hgk hgs0 hgs hopv hl4 hogl hc1 hc2 hop hcs hv hl6 hgl hnp hlen hdp hB hf hbs hbk hbm hk e' hbl hkk hnb hxp hxi hxk hxa hxt hxl hxe hxm hI hIl hIm
    go_wp2_with fail
    go_quiet (fail)
    have HB2 := Lib.hid (drewN_below' wr nq)
    have HU := Lib.hid (fun (u : World) (hb : Below wr.heap.size wr u) => show ((u.cell? ⟨og, np * 4, none⟩ = some (.slice (some ⟨bb, bo, none⟩) nb bc) ∧ u.cell? ⟨og, np * 4 + 1, none⟩ = some (.int .i64 k)) ∧ u.cell? ⟨bb, bo + k * 8, none⟩ = some (.int .i64 xp) ∧ u.cell? ⟨bb, bo + k * 8 + 1, none⟩ = some (.slice Ai xi ci) ∧ u.cell? ⟨bb, bo + k * 8 + 2, none⟩ = some (.int .i64 xk) ∧ u.cell? ⟨bb, bo + k * 8 + 3, none⟩ = some (.int .i64 xa) ∧ u.cell? ⟨bb, bo + k * 8 + 4, none⟩ = some (.int .i64 xt) ∧ u.cell? ⟨bb, bo + k * 8 + 5, none⟩ = some (.slice Al xl cl) ∧ u.cell? ⟨bb, bo + k * 8 + 6, none⟩ = some (.int .i64 xe) ∧ u.cell? ⟨bb, bo + k * 8 + 7, none⟩ = some (.slice Am xm cm)) from by
      have n := fun q o x (hx : wr.cell? ⟨q, o, none⟩ = some x) => (cellNext (World.block_lt_of_cell? wr _ hx) hb o).trans hx
      exact ⟨⟨n _ _ _ q0, n _ _ _ q1⟩, n _ _ _ bb0, n _ _ _ bb1, n _ _ _ bb2, n _ _ _ bb3, n _ _ _ bb4, n _ _ _ bb5, n _ _ _ bb6, n _ _ _ bb7⟩)
    clear cr c10 q0 q1 bb0 bb1 bb2 bb3 bb4 bb5 bb6 bb7
    generalize wr.drewN nq = u1 at *
    go_wp2_with fail
    refine wp_region_held_drew (S := (fun U => (U.cell? ⟨og, np * 4, none⟩ = some (.slice (some ⟨bb, bo, none⟩) nb bc) ∧ U.cell? ⟨og, np * 4 + 1, none⟩ = some (.int .i64 k)) ∧ U.cell? ⟨bb, bo + k * 8, none⟩ = some (.int .i64 xp) ∧ U.cell? ⟨bb, bo + k * 8 + 1, none⟩ = some (.slice Ai xi ci) ∧ U.cell? ⟨bb, bo + k * 8 + 2, none⟩ = some (.int .i64 xk) ∧ U.cell? ⟨bb, bo + k * 8 + 3, none⟩ = some (.int .i64 xa) ∧ U.cell? ⟨bb, bo + k * 8 + 4, none⟩ = some (.int .i64 xt) ∧ U.cell? ⟨bb, bo + k * 8 + 5, none⟩ = some (.slice Al xl cl) ∧ U.cell? ⟨bb, bo + k * 8 + 6, none⟩ = some (.int .i64 xe) ∧ U.cell? ⟨bb, bo + k * 8 + 7, none⟩ = some (.slice Am xm cm))) (by kernel_rfl) (HU.out _ (bthen HB2.out (drew_below u1))) ?_
    have HB3 := Lib.hid (bthen HB2.out (drew_below u1))
    generalize u1.drew = u2 at *
    intro hHeld
    refine wpAnyH_take (i := 0) (v := ?_) rfl (by kernel_rfl) (by kernel_rfl) (by kernel_rfl) (fun _ _ _ h => h) (Or.inl ⟨by rfl, ?_⟩) hHeld ?_
    rotate_left
    · intro W' hSw; (try dsimp only at hSw); go_simp; try (with_reducible rfl)
    (try simp only [Act.put, List.getElem_toArray, List.getElem_cons_zero, List.setIfInBounds_toArray, List.set_cons_zero, List.set_cons_succ])
    refine wpAnyH_take (i := 1) (v := ?_) rfl (by kernel_rfl) (by kernel_rfl) (by kernel_rfl) (fun _ _ _ h => h) (Or.inl ⟨by rfl, ?_⟩) hHeld ?_
    rotate_left
    · intro W' hSw; (try dsimp only at hSw); go_simp; try (with_reducible rfl)
    (try simp only [Act.put, List.getElem_toArray, List.getElem_cons_zero, List.getElem_cons_succ, List.setIfInBounds_toArray, List.set_cons_zero, List.set_cons_succ])
    refine wpAnyH_take (i := 2) (v := ?_) rfl (by kernel_rfl) (by kernel_rfl) (by kernel_rfl) (fun _ _ _ h => h) (Or.inl ⟨by rfl, ?_⟩) hHeld ?_
    rotate_left
    · intro W' hSw; (try dsimp only at hSw); go_simp; try (with_reducible rfl)
    (try simp only [Act.put, List.getElem_toArray, List.getElem_cons_zero, List.getElem_cons_succ, List.setIfInBounds_toArray, List.set_cons_zero, List.set_cons_succ])
    refine wpAnyH_take (i := 3) (v := ?_) rfl (by kernel_rfl) (by kernel_rfl) (by kernel_rfl) (fun _ _ _ h => h) (Or.inl ⟨by rfl, ?_⟩) hHeld ?_
    rotate_left
    · intro W' hSw; (try dsimp only at hSw); go_simp; try (with_reducible rfl)
    (try simp only [Act.put, List.getElem_toArray, List.getElem_cons_zero, List.getElem_cons_succ, List.setIfInBounds_toArray, List.set_cons_zero, List.set_cons_succ])
    refine wpAnyH_take (i := 4) (v := ?_) rfl (by kernel_rfl) (by kernel_rfl) (by kernel_rfl) (fun _ _ _ h => h) (Or.inl ⟨by rfl, ?_⟩) hHeld ?_
    rotate_left
    · intro W' hSw; (try dsimp only at hSw); go_simp; try (with_reducible rfl)
    (try simp only [Act.put, List.getElem_toArray, List.getElem_cons_zero, List.getElem_cons_succ, List.setIfInBounds_toArray, List.set_cons_zero, List.set_cons_succ])
    refine wpAnyH_take (i := 5) (v := ?_) rfl (by kernel_rfl) (by kernel_rfl) (by kernel_rfl) (fun _ _ _ h => h) (Or.inl ⟨by rfl, ?_⟩) hHeld ?_
    rotate_left
    · intro W' hSw; (try dsimp only at hSw); go_simp; try (with_reducible rfl)
    (try simp only [Act.put, List.getElem_toArray, List.getElem_cons_zero, List.getElem_cons_succ, List.setIfInBounds_toArray, List.set_cons_zero, List.set_cons_succ])
    refine wpAnyH_take (i := 6) (v := ?_) rfl (by kernel_rfl) (by kernel_rfl) (by kernel_rfl) (fun _ _ _ h => h) (Or.inl ⟨by rfl, ?_⟩) hHeld ?_
    rotate_left
    · intro W' hSw; (try dsimp only at hSw); go_simp; try (with_reducible rfl)
    (try simp only [Act.put, List.getElem_toArray, List.getElem_cons_zero, List.getElem_cons_succ, List.setIfInBounds_toArray, List.set_cons_zero, List.set_cons_succ])
    refine wpAnyH_take (i := 7) (v := ?_) rfl (by kernel_rfl) (by kernel_rfl) (by kernel_rfl) (fun _ _ _ h => h) (Or.inl ⟨by rfl, ?_⟩) hHeld ?_
    rotate_left
    · intro W' hSw; (try dsimp only at hSw); go_simp; try (with_reducible rfl)
    (try simp only [Act.put, List.getElem_toArray, List.getElem_cons_zero, List.getElem_cons_succ, List.setIfInBounds_toArray, List.set_cons_zero, List.set_cons_succ])
    refine wpAnyH_take (i := 8) (v := ?_) rfl (by kernel_rfl) (by kernel_rfl) (by kernel_rfl) (fun _ _ _ h => h) (Or.inl ⟨by rfl, ?_⟩) hHeld ?_
    rotate_left
    · intro W' hSw; (try dsimp only at hSw); go_simp; try (with_reducible rfl)
    (try simp only [Act.put, List.getElem_toArray, List.getElem_cons_zero, List.getElem_cons_succ, List.setIfInBounds_toArray, List.set_cons_zero, List.set_cons_succ])
    refine wpAnyH_take (i := 9) (v := ?_) rfl (by kernel_rfl) (by kernel_rfl) (by kernel_rfl) (fun _ _ _ h => h) (Or.inl ⟨by rfl, ?_⟩) hHeld ?_
    rotate_left
    · intro W' hSw; (try dsimp only at hSw); go_simp; try (with_reducible rfl)
    (try simp only [Act.put, List.getElem_toArray, List.getElem_cons_zero, List.getElem_cons_succ, List.setIfInBounds_toArray, List.set_cons_zero, List.set_cons_succ])
    refine wpAnyH_ready (rs := [10]) (by kernel_rfl) (by simp) ?_
    refine AllReadyH.cons rfl (fun K hK => ?_) AllReadyH.nil
    go_simp
    refine hK.out _ _ (HU.out _ (bthen HB3.out (balloc (Below.refl _ u2) _))) (fun hHeld1 => ?_)
    clear hK
    (try simp only [Act.put, List.getElem_toArray, List.getElem_cons_zero, List.getElem_cons_succ, List.setIfInBounds_toArray, List.set_cons_zero, List.set_cons_succ])
    refine wpAnyH_ready (rs := [11]) (by kernel_rfl) (by simp) ?_
    refine AllReadyH.cons rfl (fun K hK => ?_) AllReadyH.nil
    go_simp
    refine hK.out _ _ (HU.out _ (bthen HB3.out (balloc (Below.refl _ u2) _))) (fun _ => ?_)
    clear hK
    (try simp only [Act.put, List.getElem_toArray, List.getElem_cons_zero, List.getElem_cons_succ, List.setIfInBounds_toArray, List.set_cons_zero, List.set_cons_succ])
    refine wpAnyH_done (by kernel_rfl) ?_ _
    clear hHeld hHeld1 HU
    have HI0 := Lib.hid (show Runs W0 m inp R B3 B4 dp fuel RES L w L1 s1 (u2.alloc (.cells #[.int .i64 xp, .slice Ai xi ci, .int .i64 xk, .int .i64 xa, .int .i64 xt, .slice Al xl cl, .int .i64 xe, .slice Am xm cm] 58)) ∧ L1.lab u2.heap.size = 0 ∧ (u2.alloc (.cells #[.int .i64 xp, .slice Ai xi ci, .int .i64 xk, .int .i64 xa, .int .i64 xt, .slice Al xl cl, .int .i64 xe, .slice Am xm cm] 58)).heap[u2.heap.size]? = some (.cells #[.int .i64 xp, .slice Ai xi ci, .int .i64 xk, .int .i64 xa, .int .i64 xt, .slice Al xl cl, .int .i64 xe, .slice Am xm cm] 58 (0, 0)) from ⟨H1.out.quiet (bthen HB3.out (balloc (Below.refl _ u2) _)), H1.out.ok.high _ HB3.out.size, heap_alloc_new u2 _⟩)
    generalize u2.alloc (.cells #[.int .i64 xp, .slice Ai xi ci, .int .i64 xk, .int .i64 xa, .int .i64 xt, .slice Al xl cl, .int .i64 xe, .slice Am xm cm] 58) = u3 at *
    clear HB2 HB3
    generalize u2.heap.size = BB at *
    go_wp2_with fail
    go_loopg [10] g1 (fun g2 _ wx => ∃ L' s' y', Runs W0 m inp R B3 B4 dp fuel RES L w L' s' wx ∧ (L'.gs = pre ++ [y'] ∧ y'.c.bs = y.c.bs ∧ y'.c.k = y.c.k ∧ L'.opv = .slice (some ⟨og, 0, none⟩) (np + 1) ocap) ∧ (L'.lab BB = 0 ∧ wx.heap[BB]? = some (.cells #[.int .i64 xp, .slice Ai xi ci, .int .i64 xk, .int .i64 xa, .int .i64 xt, .slice Al xl cl, .int .i64 xe, .slice Am xm cm] 58 (0, 0))) ∧ s'.steps + g2 = fuel ∧ g2 ≤ g1)
    case atStart => exact ⟨_, _, y, HI0.out.1, ⟨HOP.out.1, rfl, rfl, HOP.out.2.1⟩, HI0.out.2, HGK.out, Nat.le_refl _⟩
    case round =>
      obtain ⟨L2, s2, y2, h2, ⟨hgs2, hbs2, hk2, hopv2⟩, ⟨hlb, hbb⟩, hg2, hg21⟩ := hrel
      obtain ⟨g2, eg2⟩ : ∃ x, x = gk := ⟨_, rfl⟩
      subst eg2
      have H2 := Lib.hid h2
      have HY := Lib.hid (show L2.gs = pre ++ [y2] ∧ y2.c.bs = y.c.bs ∧ y2.c.k = y.c.k ∧ L2.opv = .slice (some ⟨og, 0, none⟩) (np + 1) ocap from ⟨hgs2, hbs2, hk2, hopv2⟩)
      have HLB := Lib.hid (show L2.lab BB = 0 ∧ wr.heap[BB]? = some (.cells #[.int .i64 xp, .slice Ai xi ci, .int .i64 xk, .int .i64 xa, .int .i64 xt, .slice Al xl cl, .int .i64 xe, .slice Am xm cm] 58 (0, 0)) from ⟨hlb, hbb⟩)
      have HG2 := Lib.hid (show s2.steps + g2 = fuel ∧ g2 ≤ g1 from ⟨hg2, hg21⟩)
      obtain ⟨og', ocap', hopv', hl4, hogl, hc1, hc2, hop, hcs, hv, hl6, hgl⟩ := top_at h2.ok hgs2
      have np' := HEQ.out.1
      rw [hopv2, show pre.length = np by omega] at hopv'
      cases hopv'
      have HCS2 := Lib.hid (show s2.cs = y2.c :: (pre.map (·.c)).reverse by rw [h2.ok.hcs, hgs2]; simp)
      have hgood : GoodC m true y2.c ∧ ∀ d ∈ (pre.map (·.c)).reverse, GoodC m false d := by
        have h3 := h2.good.cs
        rw [HCS2.out] at h3
        exact h3
      have HGD := Lib.hid hgood
      obtain ⟨f2, b2, hf2, hbs2', hb2, hbm2, hn2, hl2, p02, p62, i322, he2, hi2⟩ := good_top HM.out hgood.1
      have hbb2 : b2 = b := by
        have h3 := HBK.out.2.1
        rw [← hbs2, ← hk2, hb2] at h3
        exact Option.some.inj h3
      subst hbb2
      simp only [if_true, Int.add_zero] at hl2
      have HB := Lib.hid (show f2 ∈ m.f ∧ b2 ∈ f2.l ∧ y2.c.bs[y2.c.k]? = some b2 ∧ (y2.c.vs.length : Int) = b2.p + y2.c.nx ∧ 0 ≤ b2.p ∧ b2.p ≤ 6 ∧ b2.i.length ≤ 32 ∧ endB y2.c.bs (b2.p + b2.i.length) b2.e = true ∧ ∀ (j : Nat) (hj : j < b2.i.length), instB (b2.p + j) b2.i[j] = true from ⟨hf2, hbm2, hb2, hl2, p02, p62, i322, he2, hi2⟩)
      have q2 := (hcs 2 (by decide)).1
      rw [show pre.length = np by omega] at q2
      simp only [gcV, List.getElem?_cons_zero, List.getElem?_cons_succ] at q2
      obtain ⟨nx, hnx⟩ : ∃ x, y2.c.nx = x := ⟨_, rfl⟩
      rw [hnx] at q2 hn2
      have HNX := Lib.hid (show y2.c.nx ≤ nx ∧ nx ≤ y2.c.nx by omega)
      have cb1 : wr.cell? ⟨BB, 1, none⟩ = some (.slice Ai xi ci) := Lib.cell_of_heap hbb 1
      have HCB := Lib.hid (fun (u : World) (hb : Below wr.heap.size wr u) => show ((u.cell? ⟨BB, 2, none⟩ = some (.int .i64 xk) ∧ u.cell? ⟨BB, 3, none⟩ = some (.int .i64 xa) ∧ u.cell? ⟨BB, 4, none⟩ = some (.int .i64 xt)) ∧ u.cell? ⟨BB, 5, none⟩ = some (.slice Al xl cl) ∧ u.cell? ⟨BB, 6, none⟩ = some (.int .i64 xe) ∧ u.cell? ⟨BB, 7, none⟩ = some (.slice Am xm cm)) from by
        have e := (hb.block BB (Array.getElem?_eq_some_iff.1 hbb).1).trans hbb
        exact ⟨⟨Lib.cell_of_heap e 2, Lib.cell_of_heap e 3, Lib.cell_of_heap e 4⟩, Lib.cell_of_heap e 5, Lib.cell_of_heap e 6, Lib.cell_of_heap e 7⟩)
      have x32 := HEQ.out.2.2.1
      by_cases hlt : nx < xi
      case neg =>
        have hd : decide (nx < xi) = false := by simpa using hlt
        have HXI := Lib.hid (show xi ≤ nx by omega)
        have HN2 := Lib.hid hn2
        clear h2 hgs2 hbs2 hk2 hopv2 hlb hbb hg2 hg21 hl4 hogl hc1 hc2 hop hcs hv hl6 hgl hgood hf2 hbs2' hb2 hbm2 hn2 hl2 p02 p62 i322 he2 hi2 np' hnx x32 hlt
        go_wp2_with fail
        go_quiet (fail)
        have HB3 := Lib.hid (drewN_below' wr nq)
        have HCB3 := Lib.hid (HCB.out _ HB3.out)
        have HR3 := Lib.hid (H2.out.quiet HB3.out)
        clear q2 cb1 HCB
        generalize wr.drewN nq = u at *
        go_wp2_with fail
        refine (step_any B3 B4 fuel u HR3.out.ok (by have h := HR3.out.bnd.st; have h' := HF.out; omega) HF.out HR3.out.c3 HR3.out.c4).mono ?_
        rintro e w5 ⟨hx, hfr⟩
        have HFR := Lib.hid hfr
        rcases hx with ⟨e1, e2, e3⟩ | ⟨e1, e2, e3⟩
        · rw [e2]
          have HE := Lib.hid (show GoPost W0 m inp R RES L w (.returned (.int .i64 12)) w5 by rw [HR3.out.spent HCS2.out e1]; exact ⟨rfl, L2, e3, HR3.out.fr.trans HFR.out⟩)
          clear e1 e3 hfr
          go_wp2_with fail
          try rw [Exit.noGoto_ret]
          go_ret
          exact HE.out
        · rw [e2]
          have HO5 := Lib.hid e3
          have HN5 := Lib.hid (show s2.steps < fuel by have h := HR3.out.bnd.st; omega)
          have cr := fr_cell (a := ⟨B3, 0, none⟩) hfr HR3.out.l3 HR3.out.c3
          obtain ⟨⟨t2, t3, t4⟩, t5, t6, t7⟩ := HCB3.out
          have t2 := fr_cell (a := ⟨BB, 2, none⟩) hfr HLB.out.1 t2
          have t3 := fr_cell (a := ⟨BB, 3, none⟩) hfr HLB.out.1 t3
          have t4 := fr_cell (a := ⟨BB, 4, none⟩) hfr HLB.out.1 t4
          have t5 := fr_cell (a := ⟨BB, 5, none⟩) hfr HLB.out.1 t5
          have t6 := fr_cell (a := ⟨BB, 6, none⟩) hfr HLB.out.1 t6
          have t7 := fr_cell (a := ⟨BB, 7, none⟩) hfr HLB.out.1 t7
          have HEND := Lib.hid (show Calls Try.prog 92 #[.pointer (some ⟨R, 0, none⟩), .pointer (some ⟨og, np * 4, none⟩), .agg #[.int .i64 xk, .int .i64 xa, .int .i64 xt, .slice Al xl cl, .int .i64 xe, .slice Am xm cm]] w5 (CallPost W0 m inp R L2 (endE { s2 with steps := s2.steps + 1 } y2.c (pre.map (·.c)).reverse b2.e) w5) by
            have np' : pre.length = np := by have := HEQ.out.1; omega
            have hy := HY.out
            have hld := HLD.out
            have hdd := HD.out
            have htm := HTM.out.1
            have hk : b2.e.k = xk := by rw [← htm]
            have ha : b2.e.a = xa := by rw [← htm]
            have ht : b2.e.t = xt := by rw [← htm]
            have he : b2.e.e = xe := by rw [← htm]
            clear htm
            have hn : (y2.c.vs.length : Int) = b2.p + b2.i.length := by have h := HB.out.2.2.2.1; have h1 := HXI.out; have h2 := HNX.out; have h3 := HEQ.out.2.2.1; have h4 := HN2.out; omega
            have hend := HB.out.2.2.2.2.2.2.2.1
            rw [← hn] at hend
            have hq := end_any w5 HM.out HO5.out pre y2 hy.1 og ocap (by rw [np']; exact hy.2.2.2) (by omega) HGD.out.1 (fun d hd => HGD.out.2 _ (by simp only [List.mem_reverse, List.mem_map]; exact ⟨d, hd, rfl⟩)) b2.e Al Am xl cl xm cm (by have := HEQ.out.2.2.2.1; omega) (by have := HEQ.out.2.2.2.2; omega) (Ints.next HROWS.out.2.1 HO5.out.bel) (Ints.next HROWS.out.2.2 HO5.out.bel) hend
            rw [hk, ha, ht, he, np'] at hq
            exact hq)
          clear hfr e1 e3
          go_wp2_with fail
          refine HEND.out.mono ?_
          intro e w6 hp
          obtain ⟨⟨v6, rfl⟩, -⟩ := id hp
          have HP := Lib.hid hp
          clear hp t2 t3 t4 t5 t6 t7 cr
          have HNEXT := Lib.hid (show ∃ L' s', Runs W0 m inp R B3 B4 dp fuel RES L w L' s' w6 ∧ s'.steps + (g2 - 1) = fuel by
            obtain ⟨-, L', x1, x2, -⟩ := HP.out
            have ht : tick m inp dp s2 y2.c (pre.map (·.c)).reverse = (endE { s2 with steps := s2.steps + 1 } y2.c (pre.map (·.c)).reverse b2.e, true) := by
              unfold tick
              rw [HB.out.2.2.1]
              simp only
              rw [List.getElem?_eq_none (by have h1 := HXI.out; have h2 := HNX.out; have h3 := HEQ.out.2.2.1; omega)]
            have hn := HR3.out.next HM.out HD.out HCS2.out HN5.out (by rw [ht]) (L' := L') (W' := w6) (by rw [ht]; exact x1) (HFR.out.trans x2)
            refine ⟨L', _, hn.1, ?_⟩
            have h5 := hn.2
            have h6 := HG2.out.1
            have h7 := HN5.out
            omega)
          go_wp2_with fail
          go_roundg (g2 - 1)
          case measure => have h6 := HG2.out; have h7 := HN5.out; omega
          case rel => exact HNEXT.out
      have hdlt : decide (nx < xi) = true := by simpa using hlt
      have hil : nx < b2.i.length := by omega
      obtain ⟨ib, io, hAi, hibl, hIn⟩ := RowOf.at_ HROWS.out.1 hil
      subst hAi
      have hit0 := hi2 nx hil
      have himF : b2.i[nx] ∈ insF f2 := insB_mem hbm2 (List.getElem_mem hil)
      have hget : b2.i[y2.c.nx]? = some b2.i[nx] := by rw [hnx]; exact List.getElem?_eq_getElem hil
      have hnms : (b2.i[nx]).s.size < 9223372036854775808 := (((HM.out.ok.1 f2 hf2).2.2 b2 hbm2).2.2.2 _ (List.getElem_mem hil)).1
      obtain ⟨it, hite⟩ : ∃ x, b2.i[nx] = x := ⟨_, rfl⟩
      rw [hite] at hIn hit0 himF hget hnms
      obtain ⟨j0, j1, j2, j3, j4, Aj, cj, j5, hIj⟩ := hIn
      have HIT := Lib.hid (show instB (y2.c.vs.length : Int) it = true ∧ it ∈ insF f2 ∧ b2.i[y2.c.nx]? = some it ∧ it.s.size < 9223372036854775808 ∧ Ints W0 (.slice Aj it.l.length cj) it.l from ⟨by rw [hl2, hnx]; exact hit0, himF, hget, hnms, hIj⟩)
      have l0 : ∀ q, q < W0.heap.size → L2.lab q = 0 := h2.ok.low
      have HJ := Lib.hid (show wr.cell? ⟨ib, io + nx * 6, none⟩ = some (.int .i64 it.o) ∧ wr.cell? ⟨ib, io + nx * 6 + 1, none⟩ = some (.int .i64 it.a) ∧ wr.cell? ⟨ib, io + nx * 6 + 2, none⟩ = some (.int .i64 it.b) ∧ wr.cell? ⟨ib, io + nx * 6 + 3, none⟩ = some (.int .u64 it.k) ∧ wr.cell? ⟨ib, io + nx * 6 + 4, none⟩ = some (.string it.s) ∧ wr.cell? ⟨ib, io + nx * 6 + 5, none⟩ = some (.slice Aj it.l.length cj) from by
        have n := fun o x (hx : W0.cell? ⟨ib, o, none⟩ = some x) => (cellNext hibl h2.ok.bel o).trans hx
        exact ⟨n _ _ j0, n _ _ j1, n _ _ j2, n _ _ j3, n _ _ j4, n _ _ j5⟩)
      have HIB0 := Lib.hid (l0 ib hibl)
      have hx0 : (0 : Int) ≤ (nx : Int) := by omega
      have hx1 : (nx : Int) < (xi : Int) := by omega
      have hx32 : (nx : Int) ≤ 32 := by omega
      clear h2 hgs2 hbs2 hk2 hopv2 hlb hbb hg2 hg21 hl4 hogl hc1 hc2 hop hcs hv hl6 hgl hgood hf2 hbs2' hb2 hbm2 hn2 hl2 p02 p62 i322 he2 hi2 np' hnx x32 hlt hil hit0 himF hget hnms hite j0 j1 j2 j3 j4 j5 hIj l0 hibl
      go_wp2_with fail
      go_quiet (fail)
      have HB3 := Lib.hid (drewN_below' wr nq)
      have HR3 := Lib.hid (H2.out.quiet HB3.out)
      have HJ3 := Lib.hid (show (wr.drewN nq).cell? ⟨BB, 1, none⟩ = some (.slice (some ⟨ib, io, none⟩) xi ci) ∧ (wr.drewN nq).cell? ⟨ib, io + nx * 6, none⟩ = some (.int .i64 it.o) ∧ (wr.drewN nq).cell? ⟨ib, io + nx * 6 + 1, none⟩ = some (.int .i64 it.a) ∧ (wr.drewN nq).cell? ⟨ib, io + nx * 6 + 2, none⟩ = some (.int .i64 it.b) ∧ (wr.drewN nq).cell? ⟨ib, io + nx * 6 + 3, none⟩ = some (.int .u64 it.k) ∧ (wr.drewN nq).cell? ⟨ib, io + nx * 6 + 4, none⟩ = some (.string it.s) ∧ (wr.drewN nq).cell? ⟨ib, io + nx * 6 + 5, none⟩ = some (.slice Aj it.l.length cj) from ⟨cb1, HJ.out⟩)
      have HBX := Lib.hid (show L2.lab BB = 0 ∧ (wr.drewN nq).heap[BB]? = some (.cells #[.int .i64 xp, .slice (some ⟨ib, io, none⟩) xi ci, .int .i64 xk, .int .i64 xa, .int .i64 xt, .slice Al xl cl, .int .i64 xe, .slice Am xm cm] 58 (0, 0)) from HLB.out)
      clear q2 cb1 HCB HJ HLB HI0
      generalize wr.drewN nq = u at *
      go_wp2_with fail
      refine (step_any B3 B4 fuel u HR3.out.ok (by have h := HR3.out.bnd.st; have h' := HF.out; omega) HF.out HR3.out.c3 HR3.out.c4).mono ?_
      rintro e w5 ⟨hx, hfr⟩
      have HFR := Lib.hid hfr
      rcases hx with ⟨e1, e2, e3⟩ | ⟨e1, e2, e3⟩
      · rw [e2]
        have HE := Lib.hid (show GoPost W0 m inp R RES L w (.returned (.int .i64 12)) w5 by rw [HR3.out.spent HCS2.out e1]; exact ⟨rfl, L2, e3, HR3.out.fr.trans HFR.out⟩)
        clear e1 e3 hfr
        go_wp2_with fail
        try rw [Exit.noGoto_ret]
        go_ret
        exact HE.out
      rw [e2]
      have HO5 := Lib.hid e3
      have HN5 := Lib.hid (show s2.steps < fuel by have h := HR3.out.bnd.st; omega)
      have HU5 := Lib.hid (fun (u' : World) (hb : Below w5.heap.size w5 u') => show (u'.cell? ⟨BB, 1, none⟩ = some (.slice (some ⟨ib, io, none⟩) xi ci) ∧ u'.cell? ⟨og, np * 4 + 2, none⟩ = some (.int .i64 nx)) ∧ u'.cell? ⟨ib, io + nx * 6, none⟩ = some (.int .i64 it.o) ∧ u'.cell? ⟨ib, io + nx * 6 + 1, none⟩ = some (.int .i64 it.a) ∧ u'.cell? ⟨ib, io + nx * 6 + 2, none⟩ = some (.int .i64 it.b) ∧ u'.cell? ⟨ib, io + nx * 6 + 3, none⟩ = some (.int .u64 it.k) ∧ u'.cell? ⟨ib, io + nx * 6 + 4, none⟩ = some (.string it.s) ∧ u'.cell? ⟨ib, io + nx * 6 + 5, none⟩ = some (.slice Aj it.l.length cj) from by
        have np' : pre.length = np := by have := HEQ.out.1; omega
        obtain ⟨og', ocap', hopv', -, -, -, -, -, hcs, -, -, -⟩ := top_at HO5.out HY.out.1
        rw [HY.out.2.2.2, np'] at hopv'
        cases hopv'
        have q2 := (hcs 2 (by decide)).1
        rw [np'] at q2
        have q2' : w5.cell? ⟨og, np * 4 + 2, none⟩ = some (.int .i64 nx) := by rw [q2, ← show y2.c.nx = nx from by have := HNX.out; omega]; rfl
        have n := fun q o x (hx : w5.cell? ⟨q, o, none⟩ = some x) => (cellNext (World.block_lt_of_cell? w5 _ hx) hb o).trans hx
        have nb := fun o x (hx : u.cell? ⟨ib, o, none⟩ = some x) => n _ _ _ (fr_cell (a := ⟨ib, o, none⟩) HFR.out HIB0.out hx)
        obtain ⟨k1, k2, k3, k4, k5, k6, k7⟩ := HJ3.out
        exact ⟨⟨n _ _ _ (fr_cell (a := ⟨BB, 1, none⟩) HFR.out HBX.out.1 k1), n _ _ _ q2'⟩, nb _ _ k2, nb _ _ k3, nb _ _ k4, nb _ _ k5, nb _ _ k6, nb _ _ k7⟩)
      clear hfr e1 e3
      go_wp2_with fail
      refine wp_region_held_drew (S := (fun U => (U.cell? ⟨BB, 1, none⟩ = some (.slice (some ⟨ib, io, none⟩) xi ci) ∧ U.cell? ⟨og, np * 4 + 2, none⟩ = some (.int .i64 nx)) ∧ U.cell? ⟨ib, io + nx * 6, none⟩ = some (.int .i64 it.o) ∧ U.cell? ⟨ib, io + nx * 6 + 1, none⟩ = some (.int .i64 it.a) ∧ U.cell? ⟨ib, io + nx * 6 + 2, none⟩ = some (.int .i64 it.b) ∧ U.cell? ⟨ib, io + nx * 6 + 3, none⟩ = some (.int .u64 it.k) ∧ U.cell? ⟨ib, io + nx * 6 + 4, none⟩ = some (.string it.s) ∧ U.cell? ⟨ib, io + nx * 6 + 5, none⟩ = some (.slice Aj it.l.length cj))) (by kernel_rfl) (HU5.out _ (drew_below w5)) ?_
      have HB6 := Lib.hid (drew_below w5)
      generalize w5.drew = u6 at *
      intro hHeld
      refine wpAnyH_take (i := 0) (v := ?_) rfl (by kernel_rfl) (by kernel_rfl) (by kernel_rfl) (fun _ _ _ h => h) (Or.inl ⟨by rfl, ?_⟩) hHeld ?_
      rotate_left
      · intro W' hSw; (try dsimp only at hSw); go_simp; try (with_reducible rfl)
      (try simp only [Act.put, List.getElem_toArray, List.getElem_cons_zero, List.setIfInBounds_toArray, List.set_cons_zero, List.set_cons_succ])
      refine wpAnyH_take (i := 1) (v := ?_) rfl (by kernel_rfl) (by kernel_rfl) (by kernel_rfl) (fun _ _ _ h => h) (Or.inl ⟨by rfl, ?_⟩) hHeld ?_
      rotate_left
      · intro W' hSw; (try dsimp only at hSw); go_simp; try (with_reducible rfl)
      (try simp only [Act.put, List.getElem_toArray, List.getElem_cons_zero, List.getElem_cons_succ, List.setIfInBounds_toArray, List.set_cons_zero, List.set_cons_succ])
      refine wpAnyH_take (i := 2) (v := ?_) rfl (by kernel_rfl) (by kernel_rfl) (by kernel_rfl) (fun _ _ _ h => h) (Or.inl ⟨by rfl, ?_⟩) hHeld ?_
      rotate_left
      · intro W' hSw; (try dsimp only at hSw); go_simp; try (with_reducible rfl)
      (try simp only [Act.put, List.getElem_toArray, List.getElem_cons_zero, List.getElem_cons_succ, List.setIfInBounds_toArray, List.set_cons_zero, List.set_cons_succ])
      refine wpAnyH_take (i := 3) (v := ?_) rfl (by kernel_rfl) (by kernel_rfl) (by kernel_rfl) (fun _ _ _ h => h) (Or.inl ⟨by rfl, ?_⟩) hHeld ?_
      rotate_left
      · intro W' hSw; (try dsimp only at hSw); go_simp; try (with_reducible rfl)
      (try simp only [Act.put, List.getElem_toArray, List.getElem_cons_zero, List.getElem_cons_succ, List.setIfInBounds_toArray, List.set_cons_zero, List.set_cons_succ])
      refine wpAnyH_take (i := 4) (v := ?_) rfl (by kernel_rfl) (by kernel_rfl) (by kernel_rfl) (fun _ _ _ h => h) (Or.inl ⟨by rfl, ?_⟩) hHeld ?_
      rotate_left
      · intro W' hSw; (try dsimp only at hSw); go_simp; try (with_reducible rfl)
      (try simp only [Act.put, List.getElem_toArray, List.getElem_cons_zero, List.getElem_cons_succ, List.setIfInBounds_toArray, List.set_cons_zero, List.set_cons_succ])
      refine wpAnyH_take (i := 5) (v := ?_) rfl (by kernel_rfl) (by kernel_rfl) (by kernel_rfl) (fun _ _ _ h => h) (Or.inl ⟨by rfl, ?_⟩) hHeld ?_
      rotate_left
      · intro W' hSw; (try dsimp only at hSw); go_simp; try (with_reducible rfl)
      (try simp only [Act.put, List.getElem_toArray, List.getElem_cons_zero, List.getElem_cons_succ, List.setIfInBounds_toArray, List.set_cons_zero, List.set_cons_succ])
      refine wpAnyH_take (i := 6) (v := ?_) rfl (by kernel_rfl) (by kernel_rfl) (by kernel_rfl) (fun _ _ _ h => h) (Or.inl ⟨by rfl, ?_⟩) hHeld ?_
      rotate_left
      · intro W' hSw; (try dsimp only at hSw); go_simp; try (with_reducible rfl)
      (try simp only [Act.put, List.getElem_toArray, List.getElem_cons_zero, List.getElem_cons_succ, List.setIfInBounds_toArray, List.set_cons_zero, List.set_cons_succ])
      refine wpAnyH_take (i := 7) (v := ?_) rfl (by kernel_rfl) (by kernel_rfl) (by kernel_rfl) (fun _ _ _ h => h) (Or.inl ⟨by rfl, ?_⟩) hHeld ?_
      rotate_left
      · intro W' hSw; (try dsimp only at hSw); go_simp; try (with_reducible rfl)
      (try simp only [Act.put, List.getElem_toArray, List.getElem_cons_zero, List.getElem_cons_succ, List.setIfInBounds_toArray, List.set_cons_zero, List.set_cons_succ])
      refine wpAnyH_ready (rs := [8]) (by kernel_rfl) (by simp) ?_
      refine AllReadyH.cons rfl (fun K hK => ?_) AllReadyH.nil
      go_simp
      refine hK.out _ _ (HU5.out _ (bthen HB6.out (balloc (Below.refl _ u6) _))) (fun hHeld1 => ?_)
      clear hK
      (try simp only [Act.put, List.getElem_toArray, List.getElem_cons_zero, List.getElem_cons_succ, List.setIfInBounds_toArray, List.set_cons_zero, List.set_cons_succ])
      refine wpAnyH_ready (rs := [9]) (by kernel_rfl) (by simp) ?_
      refine AllReadyH.cons rfl (fun K hK => ?_) AllReadyH.nil
      go_simp
      refine hK.out _ _ (HU5.out _ (bthen HB6.out (balloc (Below.refl _ u6) _))) (fun _ => ?_)
      clear hK
      (try simp only [Act.put, List.getElem_toArray, List.getElem_cons_zero, List.getElem_cons_succ, List.setIfInBounds_toArray, List.set_cons_zero, List.set_cons_succ])
      refine wpAnyH_done (by kernel_rfl) ?_ _
      clear hHeld hHeld1
      have H7 := Lib.hid (show RunOk W0 m inp R L2 { s2 with steps := s2.steps + 1 } (u6.alloc (.cells #[.int .i64 it.o, .int .i64 it.a, .int .i64 it.b, .int .u64 it.k, .string it.s, .slice Aj it.l.length cj] 60)) ∧ Fr L2 u (u6.alloc (.cells #[.int .i64 it.o, .int .i64 it.a, .int .i64 it.b, .int .u64 it.k, .string it.s, .slice Aj it.l.length cj] 60)) L2 ∧ L2.lab u6.heap.size = 0 ∧ (u6.alloc (.cells #[.int .i64 it.o, .int .i64 it.a, .int .i64 it.b, .int .u64 it.k, .string it.s, .slice Aj it.l.length cj] 60)).heap[u6.heap.size]? = some (.cells #[.int .i64 it.o, .int .i64 it.a, .int .i64 it.b, .int .u64 it.k, .string it.s, .slice Aj it.l.length cj] 60 (0, 0)) from ⟨HO5.out.quiet (bthen HB6.out (balloc (Below.refl _ u6) _)), HFR.out.trans (fr_quiet (bthen HB6.out (balloc (Below.refl _ u6) _))), HO5.out.high _ HB6.out.size, heap_alloc_new u6 _⟩)
      have c2 := (HU5.out _ (bthen HB6.out (balloc (Below.refl _ u6) (.cells #[.int .i64 it.o, .int .i64 it.a, .int .i64 it.b, .int .u64 it.k, .string it.s, .slice Aj it.l.length cj] 60)))).1.2
      clear HU5 HB6 HO5 HFR
      generalize u6.alloc (.cells #[.int .i64 it.o, .int .i64 it.a, .int .i64 it.b, .int .u64 it.k, .string it.s, .slice Aj it.l.length cj] 60) = u7 at *
      generalize u6.heap.size = IB at *
      have H9 := Lib.hid (show u7.frozen? ⟨og, np * 4 + 2, none⟩ = false ∧ RunOk W0 m inp R { L2 with gs := pre ++ [nxG y2] } { s2 with steps := s2.steps + 1, cs := (nxG y2).c :: (pre.map (·.c)).reverse } (u7.setCell ⟨og, np * 4 + 2, none⟩ (.int .i64 ((nx : Int) + 1))) ∧ Fr L2 u (u7.setCell ⟨og, np * 4 + 2, none⟩ (.int .i64 ((nx : Int) + 1))) { L2 with gs := pre ++ [nxG y2] } ∧ (u7.setCell ⟨og, np * 4 + 2, none⟩ (.int .i64 ((nx : Int) + 1))).heap[IB]? = some (.cells #[.int .i64 it.o, .int .i64 it.a, .int .i64 it.b, .int .u64 it.k, .string it.s, .slice Aj it.l.length cj] 60 (0, 0)) from by
        have np' : pre.length = np := by have := HEQ.out.1; omega
        have hnx : y2.c.nx = nx := by have := HNX.out; omega
        obtain ⟨og', ocap', hopv', hl4, -, -, -, -, hcs, -, -, -⟩ := top_at H7.out.1 HY.out.1
        have hopv2 := HY.out.2.2.2
        rw [← np'] at hopv2
        rw [hopv2] at hopv'
        simp only [Value.slice.injEq, Option.some.injEq, Addr.mk.injEq, and_true, true_and] at hopv'
        obtain ⟨rfl, -⟩ := hopv'
        have z2 := (hcs 2 (by decide)).2
        obtain ⟨a, b⟩ := top_nx H7.out.1 HY.out.1 hopv2
        rw [np', hnx] at a b
        rw [np'] at z2
        refine ⟨z2, a, H7.out.2.1.trans b, ?_⟩
        rw [heap_setCell_other u7 ⟨og, np * 4 + 2, none⟩ IB _ (fun e => by rw [show IB = og from e, hl4] at H7; have := H7.out.2.2.1; cases this)]
        exact H7.out.2.2.2)
      have z2 := H9.out.1
      have d0 : (u7.setCell ⟨og, np * 4 + 2, none⟩ (.int .i64 ((nx : Int) + 1))).cell? ⟨IB, 0, none⟩ = some (.int .i64 it.o) := Lib.cell_of_heap H9.out.2.2.2 0
      have HIBL := Lib.hid H7.out.2.2.1
      by_cases ho : it.o = 14
      case pos =>
        have hb14 : (it.o != 14) = false := by simpa using ho
        have HO14 := Lib.hid (show it.o ≤ 14 ∧ 14 ≤ it.o by omega)
        have cr9 := fr_cell (a := ⟨B3, 0, none⟩) H9.out.2.2.1 HR3.out.l3 HR3.out.c3
        have c109 : (u7.setCell ⟨og, np * 4 + 2, none⟩ (.int .i64 ((nx : Int) + 1))).cell? ⟨R, 10, none⟩ = some (.slice (some ⟨og, 0, none⟩) (np + 1) ocap) := by rw [rcell H9.out.2.1 10, ← HY.out.2.2.2]; rfl
        have HRL := Lib.hid (show ((pre.map (·.c)).reverse).length = np by have := HEQ.out.1; simp; omega)
        clear ho
        by_cases hdp : np + 1 = dp
        case pos =>
          have hde : ((np : Int) + 1 == (dp : Int)) = true := by simp; omega
          have HE := Lib.hid (show GoPost W0 m inp R RES L w (.returned (.int .i64 13)) (u7.setCell ⟨og, np * 4 + 2, none⟩ (.int .i64 ((nx : Int) + 1))) by
            have ht : tick m inp dp s2 y2.c (pre.map (·.c)).reverse = ({ s2 with steps := s2.steps + 1, cs := (nxG y2).c :: (pre.map (·.c)).reverse }, false) := by
              unfold tick
              rw [HB.out.2.2.1]
              simp only
              rw [HIT.out.2.2.1]
              simp only
              rw [if_pos (by have := HO14.out; omega), if_pos (by rw [HRL.out]; exact hdp)]
              rfl
            rw [HR3.out.deep HCS2.out HN5.out (by rw [ht]), ht]
            exact ⟨rfl, _, H9.out.2.1, HR3.out.fr.trans H9.out.2.2.1⟩)
          clear hdp H7 c2 H9
          go_wp2_with fail
          try rw [Exit.noGoto_ret]
          go_ret
          exact HE.out
        have hde : ((np : Int) + 1 == (dp : Int)) = false := by simp; omega
        have HDP := Lib.hid (show np + 1 < dp ∨ dp < np + 1 by omega)
        clear hdp H7 c2
        go_wp2_with fail
        have H10 := Lib.hid H9.out.2
        clear z2 d0 H9 cr9 c109
        generalize (u7.setCell ⟨og, np * 4 + 2, none⟩ (.int .i64 ((nx : Int) + 1))) = w9 at *
        obtain ⟨u9, hu9⟩ : ∃ x, w9.drew = x := ⟨_, rfl⟩
        have HB9 := Lib.hid (show Below w9.heap.size w9 u9 by rw [← hu9]; exact drew_below w9)
        have HO9 := Lib.hid (H10.out.1.quiet HB9.out)
        have HSV := Lib.hid (fun (U : World) (hs : ∀ q, q < u9.heap.size → L2.lab q = 0 → U.heap[q]? = u9.heap[q]?) => show (U.cell? ⟨B3, 0, none⟩ = some (.pointer (some ⟨R, 0, none⟩)) ∧ U.cell? ⟨IB, 0, none⟩ = some (.int .i64 it.o) ∧ U.cell? ⟨IB, 1, none⟩ = some (.int .i64 it.a) ∧ U.cell? ⟨IB, 2, none⟩ = some (.int .i64 it.b) ∧ U.cell? ⟨IB, 3, none⟩ = some (.int .u64 it.k) ∧ U.cell? ⟨IB, 4, none⟩ = some (.string it.s) ∧ U.cell? ⟨IB, 5, none⟩ = some (.slice Aj it.l.length cj)) from by
          have b3 := fr_cell (a := ⟨B3, 0, none⟩) (H10.out.2.1.trans (fr_quiet HB9.out)) HR3.out.l3 HR3.out.c3
          have ei := (HB9.out.block IB (Array.getElem?_eq_some_iff.1 H10.out.2.2).1).trans H10.out.2.2
          have f3 := (World.cell?_of_block (w := u9) (w' := U) (a := ⟨B3, 0, none⟩) (hs B3 (World.block_lt_of_cell? u9 _ b3) HR3.out.l3)).trans b3
          have e2 := (hs IB (Array.getElem?_eq_some_iff.1 ei).1 HIBL.out).trans ei
          exact ⟨f3, Lib.cell_of_heap e2 0, Lib.cell_of_heap e2 1, Lib.cell_of_heap e2 2, Lib.cell_of_heap e2 3, Lib.cell_of_heap e2 4, Lib.cell_of_heap e2 5⟩)
        obtain ⟨nl, hnl⟩ : ∃ x, it.l.length = x := ⟨_, rfl⟩
        have HNL := Lib.hid (show it.l.length ≤ nl ∧ nl ≤ it.l.length by omega)
        rw [hnl] at HSV
        have HKN := Lib.hid (show Calls Try.prog 91 #[.pointer (some ⟨og, np * 4, none⟩), .slice Aj nl cj] u9 (fun e w' => e = .returned (.slice (some ⟨u9.heap.size, 0, none⟩) nl nl) ∧ w'.ownsRow 0 41 1 (.slice (some ⟨u9.heap.size, 0, none⟩) nl nl) nl (u64s (pickE y2.c.vs it.l)) ∧ Below u9.heap.size u9 w') from by
          have np' : pre.length = np := by have := HEQ.out.1; omega
          obtain ⟨og', ocap', hopv', hl4, -, -, -, -, hcs, hv, hl6, -⟩ := top_at (pre := pre) (y := nxG y2) HO9.out rfl
          have hopv2 := HY.out.2.2.2
          rw [← np'] at hopv2
          rw [show ({ L2 with gs := pre ++ [nxG y2] } : Lay).opv = _ from hopv2] at hopv'
          simp only [Value.slice.injEq, Option.some.injEq, Addr.mk.injEq, and_true, true_and] at hopv'
          obtain ⟨rfl, -⟩ := hopv'
          have q3 := (hcs 3 (by decide)).1
          rw [np'] at q3
          have hip := inst_parts HIT.out.1
          have hus : usesI it = it.l := by
            unfold usesI usesL
            rw [if_neg (by have := HO14.out; omega), if_neg (by have := HO14.out; omega), if_pos (by have := HO14.out; omega)]
          rw [hus] at hip
          refine known_any og (np * 4) y2.g y2.cap y2.c.vs.length nl y2.c.vs it.l Aj cj u9 rfl hnl (by omega) q3 hv (by rw [← hnl]; exact Ints.next HIT.out.2.2.2.2 HO9.out.bel) (fun x hx => ?_)
          obtain ⟨j, hj, rfl⟩ := List.getElem_of_mem hx
          exact among_at hip.2 j hj)
        have HCL := Lib.hid (fun (w1 : World) (hn1 : w1.ownsRow 0 41 1 (.slice (some ⟨u9.heap.size, 0, none⟩) nl nl) nl (u64s (pickE y2.c.vs it.l))) (hb1 : Below u9.heap.size u9 w1) => show Calls Try.prog 88 #[.pointer (some ⟨R, 0, none⟩), .string it.s, .slice (some ⟨u9.heap.size, 0, none⟩) nl nl] w1 (fun e w' => (∃ v, e = .returned v) ∧ (w'.cell? ⟨B3, 0, none⟩ = some (.pointer (some ⟨R, 0, none⟩)) ∧ w'.cell? ⟨IB, 0, none⟩ = some (.int .i64 it.o) ∧ w'.cell? ⟨IB, 1, none⟩ = some (.int .i64 it.a) ∧ w'.cell? ⟨IB, 2, none⟩ = some (.int .i64 it.b) ∧ w'.cell? ⟨IB, 3, none⟩ = some (.int .u64 it.k) ∧ w'.cell? ⟨IB, 4, none⟩ = some (.string it.s) ∧ w'.cell? ⟨IB, 5, none⟩ = some (.slice Aj nl cj)) ∧ ∃ L' s', Runs W0 m inp R B3 B4 dp fuel RES L w L' s' w' ∧ s'.steps + (g2 - 1) = fuel) from by
          obtain ⟨g, hg1, hg2, hg3⟩ := HM.out.call f2 HB.out.1 it HIT.out.2.1 (by have := HO14.out; omega)
          obtain ⟨hgm, hgs⟩ := fnOf_mem hg1
          have hgl : 0 < g.l.length := List.length_pos_iff.2 hg2
          have hfp := func_parts (HM.out.fb g hgm)
          obtain ⟨p0, p6, i32, -, -⟩ := block_parts (hfp.2.1 g.l[0] (List.getElem_mem hgl))
          have hp0 := hfp.2.2 hgl
          have hO1 := HO9.out.quiet hb1
          have np' : pre.length = np := by have := HEQ.out.1; omega
          have hpl : (pickE y2.c.vs it.l).length = nl := by rw [pick_length, hnl]
          have hld := HLD.out
          have hdd := HD.out
          have hbl : blksOf m it.s = g.l := by unfold blksOf; rw [hg1]
          refine (call_any w1 hO1 g hgm ((HM.out.ok.1 g hgm).1) it.s hgs g.l[0] (List.getElem?_eq_getElem hgl) ((g.l[0].p).toNat + g.l[0].i.length) (by omega) (by omega) (.slice (some ⟨u9.heap.size, 0, none⟩) nl nl) (pickE y2.c.vs it.l) (.inr ⟨u9.heap.size, nl, by rw [hpl], HO9.out.high _ (Nat.le_refl _), by rw [hpl]; exact hn1⟩) (by rw [hpl]; omega) (by simp only [List.length_append, List.length_singleton]; omega) (by have := HR3.out.bnd.de; simp only; omega)).mono ?_
          intro e w' hp
          obtain ⟨hv, L', x1, x2, -⟩ := hp
          have hfr := (H10.out.2.1.trans (fr_quiet HB9.out)).trans ((fr_quiet (L := { L2 with gs := pre ++ [nxG y2] }) hb1).trans x2)
          have hsame : ∀ q, q < u9.heap.size → L2.lab q = 0 → w'.heap[q]? = u9.heap[q]? := fun q hq h0 => (((fr_quiet (L := { L2 with gs := pre ++ [nxG y2] }) hb1).trans x2).2 q hq h0).1
          refine ⟨hv, HSV.out w' hsame, ?_⟩
          have ht : tick m inp dp s2 y2.c (pre.map (·.c)).reverse = ({ s2 with steps := s2.steps + 1, deep := max s2.deep (({ L2 with gs := pre ++ [nxG y2] } : Lay).gs.length + 1), cs := ⟨g.l, 0, 0, pickE y2.c.vs it.l⟩ :: (nxG y2).c :: (pre.map (·.c)).reverse }, true) := by
            unfold tick
            rw [HB.out.2.2.1]
            simp only
            rw [HIT.out.2.2.1]
            simp only
            rw [if_pos (by have := HO14.out; omega), if_neg (by rw [HRL.out]; have := HDP.out; omega), hbl, show (pre ++ [nxG y2]).length = (pre.map (·.c)).reverse.length + 1 by simp]
            rfl
          have hn := HR3.out.next HM.out HD.out HCS2.out HN5.out (by rw [ht]) (L' := L') (W' := w') (by rw [ht]; exact x1) hfr
          rw [ht] at hn
          refine ⟨L', _, hn.1, ?_⟩
          have h5 := hn.2
          have h6 := HG2.out.1
          have h7 := HN5.out
          omega)
        have hs9 := HSV.out u9 (fun _ _ _ => rfl)
        have HSK := Lib.hid (fun (w1 : World) (hb1 : Below u9.heap.size u9 w1) => HSV.out w1 (fun q hq _ => hb1.block q hq))
        refine wp_region_held_drew (S := (fun U => (U.cell? ⟨B3, 0, none⟩ = some (.pointer (some ⟨R, 0, none⟩)) ∧ U.cell? ⟨IB, 0, none⟩ = some (.int .i64 it.o) ∧ U.cell? ⟨IB, 1, none⟩ = some (.int .i64 it.a) ∧ U.cell? ⟨IB, 2, none⟩ = some (.int .i64 it.b) ∧ U.cell? ⟨IB, 3, none⟩ = some (.int .u64 it.k) ∧ U.cell? ⟨IB, 4, none⟩ = some (.string it.s) ∧ U.cell? ⟨IB, 5, none⟩ = some (.slice Aj nl cj)))) (by kernel_rfl) (by rw [hu9]; exact hs9) ?_
        rw [hu9]
        clear hu9 hnl
        intro hHeld
        refine wpAnyH_take (i := 0) (v := ?_) rfl (by kernel_rfl) (by kernel_rfl) (by kernel_rfl) (fun _ _ _ h => h) (Or.inl ⟨by rfl, ?_⟩) hHeld ?_
        rotate_left
        · intro W' hSw; (try dsimp only at hSw); go_simp; try (with_reducible rfl)
        (try simp only [Act.put, List.getElem_toArray, List.getElem_cons_zero, List.setIfInBounds_toArray, List.set_cons_zero, List.set_cons_succ])
        refine wpAnyH_take (i := 1) (v := ?_) rfl (by kernel_rfl) (by kernel_rfl) (by kernel_rfl) (fun _ _ _ h => h) (Or.inl ⟨by rfl, ?_⟩) hHeld ?_
        rotate_left
        · intro W' hSw; (try dsimp only at hSw); go_simp; try (with_reducible rfl)
        (try simp only [Act.put, List.getElem_toArray, List.getElem_cons_zero, List.getElem_cons_succ, List.setIfInBounds_toArray, List.set_cons_zero, List.set_cons_succ])
        refine wpAnyH_take (i := 2) (v := ?_) rfl (by kernel_rfl) (by kernel_rfl) (by kernel_rfl) (fun _ _ _ h => h) (Or.inl ⟨by rfl, ?_⟩) hHeld ?_
        rotate_left
        · intro W' hSw; (try dsimp only at hSw); go_simp; try (with_reducible rfl)
        (try simp only [Act.put, List.getElem_toArray, List.getElem_cons_zero, List.getElem_cons_succ, List.setIfInBounds_toArray, List.set_cons_zero, List.set_cons_succ])
        refine wpAnyH_take (i := 3) (v := ?_) rfl (by kernel_rfl) (by kernel_rfl) (by kernel_rfl) (fun _ _ _ h => h) (Or.inl ⟨by rfl, ?_⟩) hHeld ?_
        rotate_left
        · intro W' hSw; (try dsimp only at hSw); go_simp; try (with_reducible rfl)
        (try simp only [Act.put, List.getElem_toArray, List.getElem_cons_zero, List.getElem_cons_succ, List.setIfInBounds_toArray, List.set_cons_zero, List.set_cons_succ])
        refine wpAnyH_take (i := 4) (v := ?_) rfl (by kernel_rfl) (by kernel_rfl) (by kernel_rfl) (fun _ _ _ h => h) (Or.inl ⟨by rfl, ?_⟩) hHeld ?_
        rotate_left
        · intro W' hSw; (try dsimp only at hSw); go_simp; try (with_reducible rfl)
        (try simp only [Act.put, List.getElem_toArray, List.getElem_cons_zero, List.getElem_cons_succ, List.setIfInBounds_toArray, List.set_cons_zero, List.set_cons_succ])
        refine wpAnyH_take (i := 5) (v := ?_) rfl (by kernel_rfl) (by kernel_rfl) (by kernel_rfl) (fun _ _ _ h => h) (Or.inl ⟨by rfl, ?_⟩) hHeld ?_
        rotate_left
        · intro W' hSw; (try dsimp only at hSw); go_simp; try (with_reducible rfl)
        (try simp only [Act.put, List.getElem_toArray, List.getElem_cons_zero, List.getElem_cons_succ, List.setIfInBounds_toArray, List.set_cons_zero, List.set_cons_succ])
        refine wpAnyH_ready (rs := [6]) (by kernel_rfl) (by simp) ?_
        refine AllReadyH.cons rfl (fun K hK => ?_) AllReadyH.nil
        go_simp
        refine HKN.out.mono ?_
        rintro e w1 ⟨rfl, hn1, hb1⟩
        have HC1 := Lib.hid (HCL.out w1 hn1 hb1)
        have hs1 := HSK.out w1 hb1
        refine hK.out _ _ hs1 (fun hHeld1 => ?_)
        clear hK hn1 hb1
        (try simp only [Act.put, List.getElem_toArray, List.getElem_cons_zero, List.getElem_cons_succ, List.setIfInBounds_toArray, List.set_cons_zero, List.set_cons_succ])
        refine wpAnyH_ready (rs := [7]) (by kernel_rfl) (by simp) ?_
        refine AllReadyH.cons rfl (fun K hK => ?_) AllReadyH.nil
        go_simp
        refine HC1.out.mono ?_
        intro e w2 hp
        obtain ⟨⟨v2, rfl⟩, hs2, hnx⟩ := hp
        have HNX2 := Lib.hid hnx
        refine hK.out _ _ hs2 (fun _ => ?_)
        clear hK hnx
        (try simp only [Act.put, List.getElem_toArray, List.getElem_cons_zero, List.getElem_cons_succ, List.setIfInBounds_toArray, List.set_cons_zero, List.set_cons_succ])
        refine wpAnyH_done (by kernel_rfl) ?_ _
        clear hHeld hHeld1 hs9 hs1 hs2
        go_wp2_with fail
        go_roundg (g2 - 1)
        case measure => have h6 := HG2.out; have h7 := HN5.out; omega
        case rel => exact HNX2.out
      have hb14 : (it.o != 14) = true := by simpa using ho
      have HNO := Lib.hid (show it.o < 14 ∨ 14 < it.o by omega)
      clear ho H7
      go_wp2_with fail
      have H10 := Lib.hid H9.out.2
      clear z2 d0 H9 c2
      generalize u7.setCell ⟨og, np * 4 + 2, none⟩ (.int .i64 ((nx : Int) + 1)) = w9 at *
      obtain ⟨u9, hu9⟩ : ∃ x, w9.drew = x := ⟨_, rfl⟩
      have HB9 := Lib.hid (show Below w9.heap.size w9 u9 by rw [← hu9]; exact drew_below w9)
      have HO9 := Lib.hid (H10.out.1.quiet HB9.out)
      obtain ⟨v, sx, hvx⟩ : ∃ v sx, valueE inp { s2 with steps := s2.steps + 1, cs := (nxG y2).c :: (pre.map (·.c)).reverse } it y2.c.vs = (v, sx) := ⟨_, _, rfl⟩
      have HSV := Lib.hid (fun (U : World) (hs : ∀ q, q < u9.heap.size → L2.lab q = 0 → U.heap[q]? = u9.heap[q]?) => show (U.cell? ⟨B3, 0, none⟩ = some (.pointer (some ⟨R, 0, none⟩)) ∧ U.cell? ⟨IB, 0, none⟩ = some (.int .i64 it.o) ∧ U.cell? ⟨IB, 1, none⟩ = some (.int .i64 it.a) ∧ U.cell? ⟨IB, 2, none⟩ = some (.int .i64 it.b) ∧ U.cell? ⟨IB, 3, none⟩ = some (.int .u64 it.k) ∧ U.cell? ⟨IB, 4, none⟩ = some (.string it.s) ∧ U.cell? ⟨IB, 5, none⟩ = some (.slice Aj it.l.length cj)) from by
        have b3 := fr_cell (a := ⟨B3, 0, none⟩) (H10.out.2.1.trans (fr_quiet HB9.out)) HR3.out.l3 HR3.out.c3
        have ei := (HB9.out.block IB (Array.getElem?_eq_some_iff.1 H10.out.2.2).1).trans H10.out.2.2
        have f3 := (World.cell?_of_block (w := u9) (w' := U) (a := ⟨B3, 0, none⟩) (hs B3 (World.block_lt_of_cell? u9 _ b3) HR3.out.l3)).trans b3
        have e2 := (hs IB (Array.getElem?_eq_some_iff.1 ei).1 HIBL.out).trans ei
        exact ⟨f3, Lib.cell_of_heap e2 0, Lib.cell_of_heap e2 1, Lib.cell_of_heap e2 2, Lib.cell_of_heap e2 3, Lib.cell_of_heap e2 4, Lib.cell_of_heap e2 5⟩)
      have HTOP := Lib.hid (show u9.cell? ⟨og, np * 4 + 3, none⟩ = some (.slice (some ⟨y2.g, 0, none⟩) y2.c.vs.length y2.cap) ∧ Calls Try.prog 90 #[.pointer (some ⟨R, 0, none⟩), .agg #[.int .i64 it.o, .int .i64 it.a, .int .i64 it.b, .int .u64 it.k, .string it.s, .slice Aj it.l.length cj], .slice (some ⟨y2.g, 0, none⟩) y2.c.vs.length y2.cap] u9 (ValuePost W0 m inp R { L2 with gs := pre ++ [nxG y2] } (v, sx) u9) ∧ y2.c.vs.length + 1 ≤ y2.cap from by
        have np' : pre.length = np := by have := HEQ.out.1; omega
        have hgs9 : ({ L2 with gs := pre ++ [nxG y2] } : Lay).gs = pre ++ [nxG y2] := rfl
        obtain ⟨og', ocap', hopv', hl4, -, -, -, -, hcs, hv, hl6, -⟩ := top_at HO9.out hgs9
        have hopv2 := HY.out.2.2.2
        rw [← np'] at hopv2
        rw [show ({ L2 with gs := pre ++ [nxG y2] } : Lay).opv = _ from hopv2] at hopv'
        simp only [Value.slice.injEq, Option.some.injEq, Addr.mk.injEq, and_true, true_and] at hopv'
        obtain ⟨rfl, -⟩ := hopv'
        have q3 := (hcs 3 (by decide)).1
        rw [np'] at q3
        have hbnd := HR3.out.bnd
        have hf9 := HF.out
        refine ⟨q3, ?_, ?_⟩
        · rw [← hvx]
          exact value_any u9 HO9.out it HIT.out.1 (by have := HNO.out; omega) HIT.out.2.2.2.1 _ y2.c.vs y2.g y2.cap rfl hv HIN.out hbnd.rd HGD.out.1.rng ⟨by rw [show (nxG y2).g = y2.g from rfl] at hl6; rw [hl6]; omega, by rw [show (nxG y2).g = y2.g from rfl] at hl6; rw [hl6]; omega⟩ (by have := hbnd.ou; have := hbnd.st; simp only; omega) (by have := HR3.out.ok.gn; simp only; omega) (by have := HN5.out; simp only; omega)
        · obtain ⟨-, b', hb', hcap⟩ := HR3.out.ok.hb y2 (by rw [HY.out.1]; simp)
          rw [HB.out.2.2.1] at hb'
          cases hb'
          have h1 := HB.out.2.2.2.1
          have h2 := HNX.out
          have h3 := HEQ.out.2.2.1
          omega)
      have HVPF := Lib.hid (fun (e : Ending) (w' : World) (hp : ValuePost W0 m inp R { L2 with gs := pre ++ [nxG y2] } (v, sx) u9 e w') => show e = .returned (.int .u64 v) ∧ w'.cell? ⟨og, np * 4 + 3, none⟩ = some (.slice (some ⟨y2.g, 0, none⟩) y2.c.vs.length y2.cap) ∧ (w'.alloc (.cells #[.int .u64 v] 41)).cell? ⟨og, np * 4 + 3, none⟩ = some (.slice (some ⟨y2.g, 0, none⟩) y2.c.vs.length y2.cap) ∧ (w'.alloc (.cells #[.int .u64 v] 41)).ownsRow 0 41 1 (.slice (some ⟨y2.g, 0, none⟩) y2.c.vs.length y2.cap) y2.c.vs.length (u64s y2.c.vs) ∧ (w'.cell? ⟨B3, 0, none⟩ = some (.pointer (some ⟨R, 0, none⟩)) ∧ w'.cell? ⟨IB, 0, none⟩ = some (.int .i64 it.o) ∧ w'.cell? ⟨IB, 1, none⟩ = some (.int .i64 it.a) ∧ w'.cell? ⟨IB, 2, none⟩ = some (.int .i64 it.b) ∧ w'.cell? ⟨IB, 3, none⟩ = some (.int .u64 it.k) ∧ w'.cell? ⟨IB, 4, none⟩ = some (.string it.s) ∧ w'.cell? ⟨IB, 5, none⟩ = some (.slice Aj it.l.length cj)) ∧ ((w'.alloc (.cells #[.int .u64 v] 41)).cell? ⟨B3, 0, none⟩ = some (.pointer (some ⟨R, 0, none⟩)) ∧ (w'.alloc (.cells #[.int .u64 v] 41)).cell? ⟨IB, 0, none⟩ = some (.int .i64 it.o) ∧ (w'.alloc (.cells #[.int .u64 v] 41)).cell? ⟨IB, 1, none⟩ = some (.int .i64 it.a) ∧ (w'.alloc (.cells #[.int .u64 v] 41)).cell? ⟨IB, 2, none⟩ = some (.int .i64 it.b) ∧ (w'.alloc (.cells #[.int .u64 v] 41)).cell? ⟨IB, 3, none⟩ = some (.int .u64 it.k) ∧ (w'.alloc (.cells #[.int .u64 v] 41)).cell? ⟨IB, 4, none⟩ = some (.string it.s) ∧ (w'.alloc (.cells #[.int .u64 v] 41)).cell? ⟨IB, 5, none⟩ = some (.slice Aj it.l.length cj)) ∧
          ∀ w1 : World, w1.ownsRow 0 41 1 (.slice (some ⟨y2.g, 0, none⟩) (y2.c.vs.length + 1) y2.cap) (y2.c.vs.length + 1) (u64s y2.c.vs ++ [.int .u64 v]) → (w'.alloc (.cells #[.int .u64 v] 41)).grownBy w1 (some y2.g) → w1.frozen? ⟨og, np * 4 + 3, none⟩ = false ∧ (∃ z, w1.cell? ⟨og, np * 4 + 3, none⟩ = some z) ∧ (w1.cell? ⟨B3, 0, none⟩ = some (.pointer (some ⟨R, 0, none⟩)) ∧ w1.cell? ⟨IB, 0, none⟩ = some (.int .i64 it.o) ∧ w1.cell? ⟨IB, 1, none⟩ = some (.int .i64 it.a) ∧ w1.cell? ⟨IB, 2, none⟩ = some (.int .i64 it.b) ∧ w1.cell? ⟨IB, 3, none⟩ = some (.int .u64 it.k) ∧ w1.cell? ⟨IB, 4, none⟩ = some (.string it.s) ∧ w1.cell? ⟨IB, 5, none⟩ = some (.slice Aj it.l.length cj)) ∧ ((w1.setCell ⟨og, np * 4 + 3, none⟩ (.slice (some ⟨y2.g, 0, none⟩) (y2.c.vs.length + 1) y2.cap)).cell? ⟨B3, 0, none⟩ = some (.pointer (some ⟨R, 0, none⟩)) ∧ (w1.setCell ⟨og, np * 4 + 3, none⟩ (.slice (some ⟨y2.g, 0, none⟩) (y2.c.vs.length + 1) y2.cap)).cell? ⟨IB, 0, none⟩ = some (.int .i64 it.o) ∧ (w1.setCell ⟨og, np * 4 + 3, none⟩ (.slice (some ⟨y2.g, 0, none⟩) (y2.c.vs.length + 1) y2.cap)).cell? ⟨IB, 1, none⟩ = some (.int .i64 it.a) ∧ (w1.setCell ⟨og, np * 4 + 3, none⟩ (.slice (some ⟨y2.g, 0, none⟩) (y2.c.vs.length + 1) y2.cap)).cell? ⟨IB, 2, none⟩ = some (.int .i64 it.b) ∧ (w1.setCell ⟨og, np * 4 + 3, none⟩ (.slice (some ⟨y2.g, 0, none⟩) (y2.c.vs.length + 1) y2.cap)).cell? ⟨IB, 3, none⟩ = some (.int .u64 it.k) ∧ (w1.setCell ⟨og, np * 4 + 3, none⟩ (.slice (some ⟨y2.g, 0, none⟩) (y2.c.vs.length + 1) y2.cap)).cell? ⟨IB, 4, none⟩ = some (.string it.s) ∧ (w1.setCell ⟨og, np * 4 + 3, none⟩ (.slice (some ⟨y2.g, 0, none⟩) (y2.c.vs.length + 1) y2.cap)).cell? ⟨IB, 5, none⟩ = some (.slice Aj it.l.length cj)) ∧
            ∃ L'' s'' y'', Runs W0 m inp R B3 B4 dp fuel RES L w L'' s'' (w1.setCell ⟨og, np * 4 + 3, none⟩ (.slice (some ⟨y2.g, 0, none⟩) (y2.c.vs.length + 1) y2.cap)) ∧ (L''.gs = pre ++ [y''] ∧ y''.c.bs = y.c.bs ∧ y''.c.k = y.c.k ∧ L''.opv = .slice (some ⟨og, 0, none⟩) (np + 1) ocap) ∧ (L''.lab BB = 0 ∧ (w1.setCell ⟨og, np * 4 + 3, none⟩ (.slice (some ⟨y2.g, 0, none⟩) (y2.c.vs.length + 1) y2.cap)).heap[BB]? = some (.cells #[.int .i64 xp, .slice (some ⟨ib, io, none⟩) xi ci, .int .i64 xk, .int .i64 xa, .int .i64 xt, .slice Al xl cl, .int .i64 xe, .slice Am xm cm] 58 (0, 0))) ∧ s''.steps + (g2 - 1) = fuel ∧ g2 - 1 ≤ g1 from by
        have np' : pre.length = np := by have := HEQ.out.1; omega
        have hopv2 := HY.out.2.2.2
        rw [← np'] at hopv2
        have q := val_path (pre := pre) (y9 := nxG y2) (og := og) (ocap := ocap) hp rfl hopv2
        have k3 := q.c3
        have k3a := q.c3a
        have kl := q.last
        rw [np'] at k3 k3a kl
        refine ⟨hp.1, k3, k3a, q.own, HSV.out _ (fun r hr h0 => (q.same r hr h0).1), HSV.out _ (fun r hr h0 => (q.same r hr h0).2), fun w1 h1 g1 => ?_⟩
        obtain ⟨z, zc, hs, L'', a, b, c, d⟩ := kl w1 h1 g1
        refine ⟨z, zc, HSV.out _ hs, HSV.out _ (fun r hr h0 => (b.2 r hr h0).1), ?_⟩
        have hcs : valueE inp { s2 with steps := s2.steps + 1, cs := (nxG y2).c :: (pre.map (·.c)).reverse } it y2.c.vs = ((valueE inp { s2 with steps := s2.steps + 1 } it y2.c.vs).1, { (valueE inp { s2 with steps := s2.steps + 1 } it y2.c.vs).2 with cs := (nxG y2).c :: (pre.map (·.c)).reverse }) := value_cs inp { s2 with steps := s2.steps + 1 } _ it y2.c.vs
        rw [hvx] at hcs
        obtain ⟨hv1, hsx⟩ := Prod.mk.inj hcs
        have ht : tick m inp dp s2 y2.c (pre.map (·.c)).reverse = ({ sx with cs := (vsG (nxG y2) v).c :: (pre.map (·.c)).reverse }, true) := by
          unfold tick
          rw [HB.out.2.2.1]
          simp only
          rw [HIT.out.2.2.1]
          simp only
          rw [if_neg (by have := HNO.out; omega), hsx, hv1]
          rfl
        have hfr := (H10.out.2.1.trans (fr_quiet HB9.out)).trans b
        have hn := HR3.out.next HM.out HD.out HCS2.out HN5.out (by rw [ht]) (L' := L'') (W' := (w1.setCell ⟨og, np * 4 + 3, none⟩ (.slice (some ⟨y2.g, 0, none⟩) (y2.c.vs.length + 1) y2.cap))) (by rw [ht]; exact a) hfr
        rw [ht] at hn
        have hbx := hfr.2 BB (Array.getElem?_eq_some_iff.1 HBX.out.2).1 HBX.out.1
        refine ⟨L'', _, _, hn.1, ⟨c, HY.out.2.1, HY.out.2.2.1, d⟩, ⟨hbx.2, hbx.1.trans HBX.out.2⟩, ?_, ?_⟩
        · have h5 := hn.2
          have h6 := HG2.out.1
          have h7 := HN5.out
          omega
        · have h6 := HG2.out.2
          omega)
      have hs9 := HSV.out u9 (fun _ _ _ => rfl)
      have c72 := HTOP.out.1
      have HROOM := Lib.hid HTOP.out.2.2
      obtain ⟨i0, hi, hz0, hz1, hz2⟩ := info_three u64_info
      clear hz0 hz2
      refine wp_region_held_drew (S := (fun U => (U.cell? ⟨B3, 0, none⟩ = some (.pointer (some ⟨R, 0, none⟩)) ∧ U.cell? ⟨IB, 0, none⟩ = some (.int .i64 it.o) ∧ U.cell? ⟨IB, 1, none⟩ = some (.int .i64 it.a) ∧ U.cell? ⟨IB, 2, none⟩ = some (.int .i64 it.b) ∧ U.cell? ⟨IB, 3, none⟩ = some (.int .u64 it.k) ∧ U.cell? ⟨IB, 4, none⟩ = some (.string it.s) ∧ U.cell? ⟨IB, 5, none⟩ = some (.slice Aj it.l.length cj)))) (by kernel_rfl) (by rw [hu9]; exact hs9) ?_
      rw [hu9]
      clear hu9 hvx
      intro hHeld
      refine wpAnyH_take (i := 0) (v := ?_) rfl (by kernel_rfl) (by kernel_rfl) (by kernel_rfl) (fun _ _ _ h => h) (Or.inl ⟨by rfl, ?_⟩) hHeld ?_
      rotate_left
      · intro W' hSw; (try dsimp only at hSw); go_simp; try (with_reducible rfl)
      (try simp only [Act.put, List.getElem_toArray, List.getElem_cons_zero, List.setIfInBounds_toArray, List.set_cons_zero, List.set_cons_succ])
      refine wpAnyH_take (i := 1) (v := ?_) rfl (by kernel_rfl) (by kernel_rfl) (by kernel_rfl) (fun _ _ _ h => h) (Or.inl ⟨by rfl, ?_⟩) hHeld ?_
      rotate_left
      · intro W' hSw; (try dsimp only at hSw); go_simp; try (with_reducible rfl)
      (try simp only [Act.put, List.getElem_toArray, List.getElem_cons_zero, List.getElem_cons_succ, List.setIfInBounds_toArray, List.set_cons_zero, List.set_cons_succ])
      refine wpAnyH_take (i := 2) (v := ?_) rfl (by kernel_rfl) (by kernel_rfl) (by kernel_rfl) (fun _ _ _ h => h) (Or.inl ⟨by rfl, ?_⟩) hHeld ?_
      rotate_left
      · intro W' hSw; (try dsimp only at hSw); go_simp; try (with_reducible rfl)
      (try simp only [Act.put, List.getElem_toArray, List.getElem_cons_zero, List.getElem_cons_succ, List.setIfInBounds_toArray, List.set_cons_zero, List.set_cons_succ])
      refine wpAnyH_take (i := 3) (v := ?_) rfl (by kernel_rfl) (by kernel_rfl) (by kernel_rfl) (fun _ _ _ h => h) (Or.inl ⟨by rfl, ?_⟩) hHeld ?_
      rotate_left
      · intro W' hSw; (try dsimp only at hSw); go_simp; try (with_reducible rfl)
      (try simp only [Act.put, List.getElem_toArray, List.getElem_cons_zero, List.getElem_cons_succ, List.setIfInBounds_toArray, List.set_cons_zero, List.set_cons_succ])
      refine wpAnyH_take (i := 5) (v := ?_) rfl (by kernel_rfl) (by kernel_rfl) (by kernel_rfl) (fun _ _ _ h => h) (Or.inl ⟨by rfl, ?_⟩) hHeld ?_
      rotate_left
      · intro W' hSw; (try dsimp only at hSw); go_simp; try (with_reducible rfl)
      (try simp only [Act.put, List.getElem_toArray, List.getElem_cons_zero, List.getElem_cons_succ, List.setIfInBounds_toArray, List.set_cons_zero, List.set_cons_succ])
      refine wpAnyH_take (i := 6) (v := ?_) rfl (by kernel_rfl) (by kernel_rfl) (by kernel_rfl) (fun _ _ _ h => h) (Or.inl ⟨by rfl, ?_⟩) hHeld ?_
      rotate_left
      · intro W' hSw; (try dsimp only at hSw); go_simp; try (with_reducible rfl)
      (try simp only [Act.put, List.getElem_toArray, List.getElem_cons_zero, List.getElem_cons_succ, List.setIfInBounds_toArray, List.set_cons_zero, List.set_cons_succ])
      refine wpAnyH_take (i := 7) (v := ?_) rfl (by kernel_rfl) (by kernel_rfl) (by kernel_rfl) (fun _ _ _ h => h) (Or.inl ⟨by rfl, ?_⟩) hHeld ?_
      rotate_left
      · intro W' hSw; (try dsimp only at hSw); go_simp; try (with_reducible rfl)
      (try simp only [Act.put, List.getElem_toArray, List.getElem_cons_zero, List.getElem_cons_succ, List.setIfInBounds_toArray, List.set_cons_zero, List.set_cons_succ])
      refine wpAnyH_take (i := 8) (v := ?_) rfl (by kernel_rfl) (by kernel_rfl) (by kernel_rfl) (fun _ _ _ h => h) (Or.inl ⟨by rfl, ?_⟩) hHeld ?_
      rotate_left
      · intro W' hSw; (try dsimp only at hSw); go_simp; try (with_reducible rfl)
      (try simp only [Act.put, List.getElem_toArray, List.getElem_cons_zero, List.getElem_cons_succ, List.setIfInBounds_toArray, List.set_cons_zero, List.set_cons_succ])
      refine wpAnyH_take (i := 9) (v := ?_) rfl (by kernel_rfl) (by kernel_rfl) (by kernel_rfl) (fun _ _ _ h => h) (Or.inl ⟨by rfl, ?_⟩) hHeld ?_
      rotate_left
      · intro W' hSw; (try dsimp only at hSw); go_simp; try (with_reducible rfl)
      (try simp only [Act.put, List.getElem_toArray, List.getElem_cons_zero, List.getElem_cons_succ, List.setIfInBounds_toArray, List.set_cons_zero, List.set_cons_succ])
      refine wpAnyH_ready (rs := [4, 10]) (by kernel_rfl) (by simp) ?_
      refine AllReadyH.cons rfl (fun K hK => ?_) (AllReadyH.cons rfl (fun K hK => ?_) AllReadyH.nil)
      · go_simp
        refine hK.out _ _ hHeld (fun _ => ?_)
        clear hK
        (try simp only [Act.put, List.getElem_toArray, List.getElem_cons_zero, List.getElem_cons_succ, List.setIfInBounds_toArray, List.set_cons_zero, List.set_cons_succ])
        refine wpAnyH_ready (rs := [10]) (by kernel_rfl) (by simp) ?_
        refine AllReadyH.cons rfl (fun K hK => ?_) AllReadyH.nil
        go_simp
        refine hK.out _ _ hHeld (fun _ => ?_)
        clear hK
        (try simp only [Act.put, List.getElem_toArray, List.getElem_cons_zero, List.getElem_cons_succ, List.setIfInBounds_toArray, List.set_cons_zero, List.set_cons_succ])
        refine wpAnyH_ready (rs := [11]) (by kernel_rfl) (by simp) ?_
        refine AllReadyH.cons rfl (fun K hK => ?_) AllReadyH.nil
        go_simp
        refine HTOP.out.2.1.mono ?_
        intro e w' hp
        obtain ⟨he, k3, k3a, ko, kw, ka, klast⟩ := HVPF.out e w' hp
        subst he
        have HKO := Lib.hid ko
        have HKL := Lib.hid klast
        clear hp ko klast
        refine hK.out _ _ kw (fun _ => ?_)
        clear hK
        (try simp only [Act.put, List.getElem_toArray, List.getElem_cons_zero, List.getElem_cons_succ, List.setIfInBounds_toArray, List.set_cons_zero, List.set_cons_succ])
        refine wpAnyH_ready (rs := [12]) (by kernel_rfl) (by simp) ?_
        refine AllReadyH.cons rfl (fun K hK => ?_) AllReadyH.nil
        go_simp
        refine hK.out _ _ ka (fun _ => ?_)
        clear hK
        (try simp only [Act.put, List.getElem_toArray, List.getElem_cons_zero, List.getElem_cons_succ, List.setIfInBounds_toArray, List.set_cons_zero, List.set_cons_succ])
        refine wpAnyH_ready (rs := [13]) (by kernel_rfl) (by simp) ?_
        refine AllReadyH.cons rfl (fun K hK => ?_) AllReadyH.nil
        refine step_append_fits rfl (.tmp 72) (.tmp 80) 105 rfl 0 41 i0 1 Try.underlying105 hi hz1 y2.g y2.c.vs.length y2.cap (u64s y2.c.vs) (by rfl) HKO.out ⟨w'.heap.size, 0, none⟩ 1 1 [.int .u64 v] (by rfl) rfl (World.news_of_block (heap_alloc_new w' _)) (by intro u hu; simp at hu; subst hu; rfl) HROOM.out ?_
        intro w1 h1 g1'
        obtain ⟨z3, ⟨zz, zc⟩, ks1, ks2, hfin⟩ := HKL.out w1 h1 g1'
        have HFIN := Lib.hid hfin
        refine hK.out _ _ ks1 (fun hHeld2 => ?_)
        clear hK h1 g1' hfin
        (try simp only [Act.put, List.getElem_toArray, List.getElem_cons_zero, List.getElem_cons_succ, List.setIfInBounds_toArray, List.set_cons_zero, List.set_cons_succ])
        refine wpAnyH_take (i := 14) (v := ?_) rfl (by kernel_rfl) (by kernel_rfl) (by kernel_rfl) (fun _ _ _ h => h) (Or.inl ⟨by rfl, ?_⟩) hHeld2 ?_
        rotate_left
        · intro W' hSw; (try dsimp only at hSw); go_simp; try (with_reducible rfl)
        (try simp only [Act.put, List.getElem_toArray, List.getElem_cons_zero, List.getElem_cons_succ, List.setIfInBounds_toArray, List.set_cons_zero, List.set_cons_succ])
        refine wpAnyH_take (i := 15) (v := ?_) rfl (by kernel_rfl) (by kernel_rfl) (by kernel_rfl) (fun _ _ _ h => h) (Or.inl ⟨by rfl, ?_⟩) hHeld2 ?_
        rotate_left
        · intro W' hSw; (try dsimp only at hSw); go_simp; try (with_reducible rfl)
        (try simp only [Act.put, List.getElem_toArray, List.getElem_cons_zero, List.getElem_cons_succ, List.setIfInBounds_toArray, List.set_cons_zero, List.set_cons_succ])
        refine wpAnyH_ready (rs := [16]) (by kernel_rfl) (by simp) ?_
        refine AllReadyH.cons rfl (fun K hK => ?_) AllReadyH.nil
        go_simp
        refine hK.out _ _ ks2 (fun _ => ?_)
        clear hK
        (try simp only [Act.put, List.getElem_toArray, List.getElem_cons_zero, List.getElem_cons_succ, List.setIfInBounds_toArray, List.set_cons_zero, List.set_cons_succ])
        refine wpAnyH_done (by kernel_rfl) ?_ _
        clear hHeld hHeld2 hs9 c72 k3 k3a kw ka z3 zc ks1 ks2
        go_wp2_with fail
        go_roundg (g2 - 1)
        case measure => have h6 := HG2.out; have h7 := HN5.out; omega
        case rel => exact HFIN.out
      · go_simp
        refine hK.out _ _ hHeld (fun _ => ?_)
        clear hK
        (try simp only [Act.put, List.getElem_toArray, List.getElem_cons_zero, List.getElem_cons_succ, List.setIfInBounds_toArray, List.set_cons_zero, List.set_cons_succ])
        refine wpAnyH_ready (rs := [4, 11]) (by kernel_rfl) (by simp) ?_
        refine AllReadyH.cons rfl (fun K hK => ?_) (AllReadyH.cons rfl (fun K hK => ?_) AllReadyH.nil)
        · go_simp
          refine hK.out _ _ hHeld (fun _ => ?_)
          clear hK
          (try simp only [Act.put, List.getElem_toArray, List.getElem_cons_zero, List.getElem_cons_succ, List.setIfInBounds_toArray, List.set_cons_zero, List.set_cons_succ])
          refine wpAnyH_ready (rs := [11]) (by kernel_rfl) (by simp) ?_
          refine AllReadyH.cons rfl (fun K hK => ?_) AllReadyH.nil
          go_simp
          refine HTOP.out.2.1.mono ?_
          intro e w' hp
          obtain ⟨he, k3, k3a, ko, kw, ka, klast⟩ := HVPF.out e w' hp
          subst he
          have HKO := Lib.hid ko
          have HKL := Lib.hid klast
          clear hp ko klast
          refine hK.out _ _ kw (fun _ => ?_)
          clear hK
          (try simp only [Act.put, List.getElem_toArray, List.getElem_cons_zero, List.getElem_cons_succ, List.setIfInBounds_toArray, List.set_cons_zero, List.set_cons_succ])
          refine wpAnyH_ready (rs := [12]) (by kernel_rfl) (by simp) ?_
          refine AllReadyH.cons rfl (fun K hK => ?_) AllReadyH.nil
          go_simp
          refine hK.out _ _ ka (fun _ => ?_)
          clear hK
          (try simp only [Act.put, List.getElem_toArray, List.getElem_cons_zero, List.getElem_cons_succ, List.setIfInBounds_toArray, List.set_cons_zero, List.set_cons_succ])
          refine wpAnyH_ready (rs := [13]) (by kernel_rfl) (by simp) ?_
          refine AllReadyH.cons rfl (fun K hK => ?_) AllReadyH.nil
          refine step_append_fits rfl (.tmp 72) (.tmp 80) 105 rfl 0 41 i0 1 Try.underlying105 hi hz1 y2.g y2.c.vs.length y2.cap (u64s y2.c.vs) (by rfl) HKO.out ⟨w'.heap.size, 0, none⟩ 1 1 [.int .u64 v] (by rfl) rfl (World.news_of_block (heap_alloc_new w' _)) (by intro u hu; simp at hu; subst hu; rfl) HROOM.out ?_
          intro w1 h1 g1'
          obtain ⟨z3, ⟨zz, zc⟩, ks1, ks2, hfin⟩ := HKL.out w1 h1 g1'
          have HFIN := Lib.hid hfin
          refine hK.out _ _ ks1 (fun hHeld2 => ?_)
          clear hK h1 g1' hfin
          (try simp only [Act.put, List.getElem_toArray, List.getElem_cons_zero, List.getElem_cons_succ, List.setIfInBounds_toArray, List.set_cons_zero, List.set_cons_succ])
          refine wpAnyH_take (i := 14) (v := ?_) rfl (by kernel_rfl) (by kernel_rfl) (by kernel_rfl) (fun _ _ _ h => h) (Or.inl ⟨by rfl, ?_⟩) hHeld2 ?_
          rotate_left
          · intro W' hSw; (try dsimp only at hSw); go_simp; try (with_reducible rfl)
          (try simp only [Act.put, List.getElem_toArray, List.getElem_cons_zero, List.getElem_cons_succ, List.setIfInBounds_toArray, List.set_cons_zero, List.set_cons_succ])
          refine wpAnyH_take (i := 15) (v := ?_) rfl (by kernel_rfl) (by kernel_rfl) (by kernel_rfl) (fun _ _ _ h => h) (Or.inl ⟨by rfl, ?_⟩) hHeld2 ?_
          rotate_left
          · intro W' hSw; (try dsimp only at hSw); go_simp; try (with_reducible rfl)
          (try simp only [Act.put, List.getElem_toArray, List.getElem_cons_zero, List.getElem_cons_succ, List.setIfInBounds_toArray, List.set_cons_zero, List.set_cons_succ])
          refine wpAnyH_ready (rs := [16]) (by kernel_rfl) (by simp) ?_
          refine AllReadyH.cons rfl (fun K hK => ?_) AllReadyH.nil
          go_simp
          refine hK.out _ _ ks2 (fun _ => ?_)
          clear hK
          (try simp only [Act.put, List.getElem_toArray, List.getElem_cons_zero, List.getElem_cons_succ, List.setIfInBounds_toArray, List.set_cons_zero, List.set_cons_succ])
          refine wpAnyH_done (by kernel_rfl) ?_ _
          clear hHeld hHeld2 hs9 c72 k3 k3a kw ka z3 zc ks1 ks2
          go_wp2_with fail
          go_roundg (g2 - 1)
          case measure => have h6 := HG2.out; have h7 := HN5.out; omega
          case rel => exact HFIN.out
        · go_simp
          refine HTOP.out.2.1.mono ?_
          intro e w' hp
          obtain ⟨he, k3, k3a, ko, kw, ka, klast⟩ := HVPF.out e w' hp
          subst he
          have HKO := Lib.hid ko
          have HKL := Lib.hid klast
          clear hp ko klast
          refine hK.out _ _ kw (fun _ => ?_)
          clear hK
          (try simp only [Act.put, List.getElem_toArray, List.getElem_cons_zero, List.getElem_cons_succ, List.setIfInBounds_toArray, List.set_cons_zero, List.set_cons_succ])
          refine wpAnyH_ready (rs := [4, 12]) (by kernel_rfl) (by simp) ?_
          refine AllReadyH.cons rfl (fun K hK => ?_) (AllReadyH.cons rfl (fun K hK => ?_) AllReadyH.nil)
          · go_simp
            refine hK.out _ _ kw (fun _ => ?_)
            clear hK
            (try simp only [Act.put, List.getElem_toArray, List.getElem_cons_zero, List.getElem_cons_succ, List.setIfInBounds_toArray, List.set_cons_zero, List.set_cons_succ])
            refine wpAnyH_ready (rs := [12]) (by kernel_rfl) (by simp) ?_
            refine AllReadyH.cons rfl (fun K hK => ?_) AllReadyH.nil
            go_simp
            refine hK.out _ _ ka (fun _ => ?_)
            clear hK
            (try simp only [Act.put, List.getElem_toArray, List.getElem_cons_zero, List.getElem_cons_succ, List.setIfInBounds_toArray, List.set_cons_zero, List.set_cons_succ])
            refine wpAnyH_ready (rs := [13]) (by kernel_rfl) (by simp) ?_
            refine AllReadyH.cons rfl (fun K hK => ?_) AllReadyH.nil
            refine step_append_fits rfl (.tmp 72) (.tmp 80) 105 rfl 0 41 i0 1 Try.underlying105 hi hz1 y2.g y2.c.vs.length y2.cap (u64s y2.c.vs) (by rfl) HKO.out ⟨w'.heap.size, 0, none⟩ 1 1 [.int .u64 v] (by rfl) rfl (World.news_of_block (heap_alloc_new w' _)) (by intro u hu; simp at hu; subst hu; rfl) HROOM.out ?_
            intro w1 h1 g1'
            obtain ⟨z3, ⟨zz, zc⟩, ks1, ks2, hfin⟩ := HKL.out w1 h1 g1'
            have HFIN := Lib.hid hfin
            refine hK.out _ _ ks1 (fun hHeld2 => ?_)
            clear hK h1 g1' hfin
            (try simp only [Act.put, List.getElem_toArray, List.getElem_cons_zero, List.getElem_cons_succ, List.setIfInBounds_toArray, List.set_cons_zero, List.set_cons_succ])
            refine wpAnyH_take (i := 14) (v := ?_) rfl (by kernel_rfl) (by kernel_rfl) (by kernel_rfl) (fun _ _ _ h => h) (Or.inl ⟨by rfl, ?_⟩) hHeld2 ?_
            rotate_left
            · intro W' hSw; (try dsimp only at hSw); go_simp; try (with_reducible rfl)
            (try simp only [Act.put, List.getElem_toArray, List.getElem_cons_zero, List.getElem_cons_succ, List.setIfInBounds_toArray, List.set_cons_zero, List.set_cons_succ])
            refine wpAnyH_take (i := 15) (v := ?_) rfl (by kernel_rfl) (by kernel_rfl) (by kernel_rfl) (fun _ _ _ h => h) (Or.inl ⟨by rfl, ?_⟩) hHeld2 ?_
            rotate_left
            · intro W' hSw; (try dsimp only at hSw); go_simp; try (with_reducible rfl)
            (try simp only [Act.put, List.getElem_toArray, List.getElem_cons_zero, List.getElem_cons_succ, List.setIfInBounds_toArray, List.set_cons_zero, List.set_cons_succ])
            refine wpAnyH_ready (rs := [16]) (by kernel_rfl) (by simp) ?_
            refine AllReadyH.cons rfl (fun K hK => ?_) AllReadyH.nil
            go_simp
            refine hK.out _ _ ks2 (fun _ => ?_)
            clear hK
            (try simp only [Act.put, List.getElem_toArray, List.getElem_cons_zero, List.getElem_cons_succ, List.setIfInBounds_toArray, List.set_cons_zero, List.set_cons_succ])
            refine wpAnyH_done (by kernel_rfl) ?_ _
            clear hHeld hHeld2 hs9 c72 k3 k3a kw ka z3 zc ks1 ks2
            go_wp2_with fail
            go_roundg (g2 - 1)
            case measure => have h6 := HG2.out; have h7 := HN5.out; omega
            case rel => exact HFIN.out
          · go_simp
            refine hK.out _ _ ka (fun _ => ?_)
            clear hK
            (try simp only [Act.put, List.getElem_toArray, List.getElem_cons_zero, List.getElem_cons_succ, List.setIfInBounds_toArray, List.set_cons_zero, List.set_cons_succ])
            refine wpAnyH_ready (rs := [4]) (by kernel_rfl) (by simp) ?_
            refine AllReadyH.cons rfl (fun K hK => ?_) AllReadyH.nil
            go_simp
            refine hK.out _ _ ka (fun _ => ?_)
            clear hK
            (try simp only [Act.put, List.getElem_toArray, List.getElem_cons_zero, List.getElem_cons_succ, List.setIfInBounds_toArray, List.set_cons_zero, List.set_cons_succ])
            refine wpAnyH_ready (rs := [13]) (by kernel_rfl) (by simp) ?_
            refine AllReadyH.cons rfl (fun K hK => ?_) AllReadyH.nil
            refine step_append_fits rfl (.tmp 72) (.tmp 80) 105 rfl 0 41 i0 1 Try.underlying105 hi hz1 y2.g y2.c.vs.length y2.cap (u64s y2.c.vs) (by rfl) HKO.out ⟨w'.heap.size, 0, none⟩ 1 1 [.int .u64 v] (by rfl) rfl (World.news_of_block (heap_alloc_new w' _)) (by intro u hu; simp at hu; subst hu; rfl) HROOM.out ?_
            intro w1 h1 g1'
            obtain ⟨z3, ⟨zz, zc⟩, ks1, ks2, hfin⟩ := HKL.out w1 h1 g1'
            have HFIN := Lib.hid hfin
            refine hK.out _ _ ks1 (fun hHeld2 => ?_)
            clear hK h1 g1' hfin
            (try simp only [Act.put, List.getElem_toArray, List.getElem_cons_zero, List.getElem_cons_succ, List.setIfInBounds_toArray, List.set_cons_zero, List.set_cons_succ])
            refine wpAnyH_take (i := 14) (v := ?_) rfl (by kernel_rfl) (by kernel_rfl) (by kernel_rfl) (fun _ _ _ h => h) (Or.inl ⟨by rfl, ?_⟩) hHeld2 ?_
            rotate_left
            · intro W' hSw; (try dsimp only at hSw); go_simp; try (with_reducible rfl)
            (try simp only [Act.put, List.getElem_toArray, List.getElem_cons_zero, List.getElem_cons_succ, List.setIfInBounds_toArray, List.set_cons_zero, List.set_cons_succ])
            refine wpAnyH_take (i := 15) (v := ?_) rfl (by kernel_rfl) (by kernel_rfl) (by kernel_rfl) (fun _ _ _ h => h) (Or.inl ⟨by rfl, ?_⟩) hHeld2 ?_
            rotate_left
            · intro W' hSw; (try dsimp only at hSw); go_simp; try (with_reducible rfl)
            (try simp only [Act.put, List.getElem_toArray, List.getElem_cons_zero, List.getElem_cons_succ, List.setIfInBounds_toArray, List.set_cons_zero, List.set_cons_succ])
            refine wpAnyH_ready (rs := [16]) (by kernel_rfl) (by simp) ?_
            refine AllReadyH.cons rfl (fun K hK => ?_) AllReadyH.nil
            go_simp
            refine hK.out _ _ ks2 (fun _ => ?_)
            clear hK
            (try simp only [Act.put, List.getElem_toArray, List.getElem_cons_zero, List.getElem_cons_succ, List.setIfInBounds_toArray, List.set_cons_zero, List.set_cons_succ])
            refine wpAnyH_done (by kernel_rfl) ?_ _
            clear hHeld hHeld2 hs9 c72 k3 k3a kw ka z3 zc ks1 ks2
            go_wp2_with fail
            go_roundg (g2 - 1)
            case measure => have h6 := HG2.out; have h7 := HN5.out; omega
            case rel => exact HFIN.out
end Go.Proofs.Ytkalgiaapkjplaa
