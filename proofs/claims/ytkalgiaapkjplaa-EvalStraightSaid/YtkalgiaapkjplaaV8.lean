/- Package eval: a call is opened. -/
import Derived.Test.YtkalgiaapkjplaaVB
import Derived.Deep.RegionHeld3
import Derived.StillTailTactics
namespace Go.Proofs.Ytkalgiaapkjplaa
open Go.RowKit

theorem tail_drewV {P : Program} {id : Nat} {Q : Exit → Act → World → Prop} {a : Act} {w : World} {l : List Oper} (n : Nat) (hm : P.follows .mixedOrders = true) (hB : Region.lexTailB .any l.toArray n = true)
    (h : wpStill P l.toArray w.drew (fun a' => wpList P l.toArray Q (l.drop n) a' w.drew) (l.take n) a) : (Code.region id l.toArray true).wp P Q a w := wp_region_still_tail n hm hB h
theorem drew_below (w : World) : Below w.heap.size w w.drew := (Below.refl _ _).drew
theorem look_fn {W0 : World} {m : Md} {inp : ByteArray} {R : Nat} {L : Lay} {s : Rs} {W : World} (h : RunOk W0 m inp R L s W) {f : Fn} (hf : f ∈ m.f) (hs : f.s.size < 9223372036854775808) :
    ∃ A cap, Blocks W0 (.slice A f.l.length cap) f.l ∧ ∀ U : World, U.ownsMap Try.prog 9 slR L.fm L.fn L.FD → (Instr.lookup 98 (.map (some L.fm)) (.string f.s) false).run Try.prog U = .ok (.slice A f.l.length cap) U := by
  obtain ⟨A, cap, h1, h2⟩ := h.fF f hf
  refine ⟨A, cap, h2, fun U hU => ?_⟩
  obtain ⟨v, ps, hr, hv⟩ := hU.lookup skeyed Try.underlying98 (Try.zeroValue22 _) rfl (skey_of hs)
  rw [h1] at hv
  rw [hr, slR_inv hv]
/-- what is handed to a call, beside the run -/
def HandedL (L : Lay) (W : World) (hv : Value) (hd : List Int) : Prop := (hv = .slice none 0 0 ∧ hd = []) ∨ ∃ hb ch, hv = .slice (some ⟨hb, 0, none⟩) hd.length ch ∧ L.lab hb = 0 ∧ W.ownsRow 0 41 1 hv hd.length (u64s hd)
/-- what call leaves -/
def CallPost (W0 : World) (m : Md) (inp : ByteArray) (R : Nat) (L : Lay) (s' : Rs) (w : World) (e : Ending) (w' : World) : Prop :=
  (∃ v, e = .returned v) ∧ ∃ L', RunOk W0 m inp R L' s' w' ∧ Fr L w w' L' ∧ L'.gn = L.gn
set_option maxRecDepth 100000 in
set_option maxHeartbeats 8000000 in
theorem call_any {W0 : World} {m : Md} {inp : ByteArray} {R : Nat} {L : Lay} {s : Rs} (w : World) (h : RunOk W0 m inp R L s w) (f : Fn) (hf : f ∈ m.f) (hfs : f.s.size < 9223372036854775808) (nm : ByteArray) (hnm : f.s = nm)
    (b0 : Bk) (hb0 : f.l[0]? = some b0) (cap : Nat) (hcap : (cap : Int) = b0.p + b0.i.length) (hc6 : cap ≤ 44) (hv : Value) (hd : List Int) (hH : HandedL L w hv hd) (hfit : hd.length ≤ cap) (hlen : L.gs.length ≤ 64) (hdeep : s.deep ≤ 64) :
    Calls Try.prog 88 #[.pointer (some ⟨R, 0, none⟩), .string nm, hv] w (CallPost W0 m inp R L { s with deep := max s.deep (L.gs.length + 1), cs := ⟨f.l, 0, 0, hd⟩ :: s.cs } w) := by
  obtain ⟨A, bc, hBl, hlk⟩ := look_fn h hf hfs
  have h0l : 0 < f.l.length := (List.getElem?_eq_some_iff.1 hb0).1
  obtain ⟨bb, bo, hA, hbl, hBk⟩ := RowOf.at_ hBl h0l
  subst hA
  rw [(List.getElem?_eq_some_iff.1 hb0).2] at hBk
  obtain ⟨ic, hi, hz0, hz1, hz2⟩ := info_three call_info
  obtain ⟨u0, hu0⟩ : ∃ u, w.drew = u := ⟨_, rfl⟩
  have hB0 : Below w.heap.size w u0 := by rw [← hu0]; exact drew_below w
  have h0 := h.quiet hB0
  have c8 : u0.cell? ⟨R, 8, none⟩ = some (.map (some L.fm)) := Lib.cell_of_heap h0.hR 8
  have c10 : u0.cell? ⟨R, 10, none⟩ = some L.opv := Lib.cell_of_heap h0.hR 10
  have hop := h0.hop
  have htop := h0.top
  obtain ⟨bs, hbs⟩ : ∃ x, f.l = x := ⟨_, rfl⟩
  obtain ⟨nb, hnb⟩ : ∃ x, bs.length = x := ⟨_, rfl⟩
  rw [hbs] at hBl hlk h0l hb0 ⊢
  rw [hnm] at hlk
  rw [hnb] at hBl hlk h0l
  have HLK := Lib.hid hlk
  have l0 := HLK.out u0 h0.hf
  have lA := HLK.out (u0.alloc (.cells #[.slice (some ⟨bb, bo, none⟩) nb bc, .int .i64 0, .int .i64 0, .slice none 0 0] 134)) (h0.hf.alloc _)
  have c8A : (u0.alloc (.cells #[.slice (some ⟨bb, bo, none⟩) nb bc, .int .i64 0, .int .i64 0, .slice none 0 0] 134)).cell? ⟨R, 8, none⟩ = some (.map (some L.fm)) := (cellNext (Array.getElem?_eq_some_iff.1 h0.hR).1 (balloc (Below.refl _ u0) _) 8).trans c8
  have c10A : (u0.alloc (.cells #[.slice (some ⟨bb, bo, none⟩) nb bc, .int .i64 0, .int .i64 0, .slice none 0 0] 134)).cell? ⟨R, 10, none⟩ = some L.opv := (cellNext (Array.getElem?_eq_some_iff.1 h0.hR).1 (balloc (Below.refl _ u0) _) 10).trans c10
  have HOA := Lib.hid (hop.alloc (.cells #[.slice (some ⟨bb, bo, none⟩) nb bc, .int .i64 0, .int .i64 0, .slice none 0 0] 134))
  have H0 := Lib.hid h0
  have HB := Lib.hid hB0
  have HBL := Lib.hid hBl
  have HBW := Lib.hid (show BkAt W0 bb (bo + 0 * 8) b0 from hBk)
  have HBK := Lib.hid (show BkAt w bb (bo + 0 * 8) b0 from BkAt.next _ _ _ _ _ hbl h.bel hBk)
  have HBB := Lib.hid (show bb < W0.heap.size from hbl)
  have HHD := Lib.hid hH
  have HCC := Lib.hid (show (cap : Int) = b0.p + b0.i.length ∧ cap ≤ 44 ∧ hd.length ≤ cap ∧ bs[0]? = some b0 from ⟨hcap, hc6, hfit, hb0⟩)
  obtain ⟨fm, hfm⟩ : ∃ x, L.fm = x := ⟨_, rfl⟩
  obtain ⟨opv, hopv⟩ : ∃ x, L.opv = x := ⟨_, rfl⟩
  obtain ⟨n, hn⟩ : ∃ x, L.gs.length = x := ⟨_, rfl⟩
  obtain ⟨dp, hdp⟩ : ∃ x, s.deep = x := ⟨_, rfl⟩
  rw [hfm] at c8 c8A l0 lA HLK
  rw [hopv] at c10 c10A HOA
  rw [hn] at HOA hlen ⊢
  have HP1 := Lib.hid (fun (w1 : World) (og ocap : Nat) => push1_of (w1 := w1) (og := og) (ocap := ocap) (o := .cells #[.slice (some ⟨bb, bo, none⟩) nb bc, .int .i64 0, .int .i64 0, .slice none 0 0] 134) (bv := .slice (some ⟨bb, bo, none⟩) nb bc) H0.out)
  have HPM := Lib.hid (fun (w2 : World) (og ocap : Nat) (hp : Push1 inp R L s u0 og ocap (.slice (some ⟨bb, bo, none⟩) nb bc) w2) => hp.map H0.out)
  rw [hopv, hn, hfm] at HP1
  rw [hfm] at HPM
  rw [hdp] at hdeep ⊢
  have HFM := Lib.hid (show L.fm ≤ fm ∧ fm ≤ L.fm by omega)
  have HNN := Lib.hid (show L.gs.length ≤ n ∧ n ≤ L.gs.length by omega)
  have HDP := Lib.hid (show s.deep ≤ dp ∧ dp ≤ s.deep by omega)
  have HOPV := Lib.hid (show L.opv = opv ∧ True from ⟨hopv, trivial⟩)
  have HNB := Lib.hid (show bs.length ≤ nb ∧ nb ≤ bs.length by omega)
  have n64 : (n : Int) ≤ 64 := by omega
  have d64 : (dp : Int) ≤ 64 := by omega
  have HBOG := Lib.hid (fun (u2 : World) (og ocap : Nat) (hp : Push1 inp R L s u0 og ocap (.slice (some ⟨bb, bo, none⟩) nb bc) u2) => show bb ≠ og from fun e => by
    have h := H0.out
    have hb := HBB.out
    subst e
    rcases hp.at_ with h1 | h1
    · rw [h.low _ hb] at h1; cases h1
    · have := h.bel.size; omega)
  have HBK2 := Lib.hid (fun (u2 : World) (og ocap : Nat) (hp : Push1 inp R L s u0 og ocap (.slice (some ⟨bb, bo, none⟩) nb bc) u2) => show BkAt u2 bb (bo + 0 * 8) b0 from by
    have h := H0.out
    have hw : Below W0.heap.size u0 u2 := ⟨hp.os, hp.tape, hp.output, hp.size, fun k hk => hp.same k (Nat.lt_of_lt_of_le hk h.bel.size) (by rw [h.low k hk]; decide) (by rw [h.low k hk]; decide)⟩
    exact BkAt.next W0 u2 _ _ _ HBB.out (h.bel.trans hw) HBW.out)
  have HHD2 := Lib.hid (fun (u2 : World) (og ocap : Nat) (hp : Push1 inp R L s u0 og ocap (.slice (some ⟨bb, bo, none⟩) nb bc) u2) => show Handed u2 og hv hd from by
    have h := H0.out
    rcases HHD.out with h1 | ⟨hb, ch, h1, h2, h3⟩
    · exact .inl h1
    · have hlt := (h3.lt hb (by rw [h1]; rfl)).2
      have hlt' := Nat.lt_of_lt_of_le hlt HB.out.size
      refine .inr ⟨hb, ch, h1, fun e => ?_, own_same h3 (fun g hg hl => ?_)⟩
      · subst e
        rcases hp.at_ with h4 | h4
        · rw [h2] at h4; cases h4
        · omega
      · rw [h1] at hg
        cases hg
        rw [hp.same _ hlt' (by rw [h2]; decide) (by rw [h2]; decide)]
        exact HB.out.block _ hl)
  have HEC := Lib.hid (fun (u2 w3 : World) (og ocap : Nat) (e : Ending) (hp : Push1 inp R L s u0 og ocap (.slice (some ⟨bb, bo, none⟩) nb bc) u2) (he : EnterPost og ocap (n + 1) n 0 (gcsV L.gs ++ [.slice (some ⟨bb, bo, none⟩) nb bc, .int .i64 0, .int .i64 0, .slice none 0 0]) cap hd u2 e w3) =>
    show w3.drew.cell? ⟨R, 5, none⟩ = some (.int .i64 dp) ∧ w3.drew.cell? ⟨R, 10, none⟩ = some (.slice (some ⟨og, 0, none⟩) (n + 1) ocap) ∧ w3.drew.frozen? ⟨R, 5, none⟩ = false from by
    have h := H0.out
    obtain ⟨-, g, hg0, hg1, hgr, ho, hv'⟩ := he
    have hne : R ≠ og := fun e => by
      subst e
      rcases hp.at_ with h1 | h1
      · rw [h.tR] at h1; cases h1
      · have := (Array.getElem?_eq_some_iff.1 h.hR).1; omega
    have hR3 := (hgr.block R (Array.getElem?_eq_some_iff.1 hp.hR).1 (by simpa using hne)).trans hp.hR
    have hR4 : w3.drew.heap[R]? = _ := hR3
    refine ⟨(Lib.cell_of_heap hR4 5).trans ?_, (Lib.cell_of_heap hR4 10).trans ?_, frozen_of_row w3.drew R 5 _ _ hR4⟩
    · rw [← show s.deep = dp from by have := HDP.out; omega]; rfl
    · rw [← show L.gs.length = n from by have := HNN.out; omega]; rfl)
  have HFIN := Lib.hid (fun (u2 w3 : World) (og ocap : Nat) (e : Ending) (hp : Push1 inp R L s u0 og ocap (.slice (some ⟨bb, bo, none⟩) nb bc) u2) (he : EnterPost og ocap (n + 1) n 0 (gcsV L.gs ++ [.slice (some ⟨bb, bo, none⟩) nb bc, .int .i64 0, .int .i64 0, .slice none 0 0]) cap hd u2 e w3) (D : Nat) (hD : max dp (n + 1) = D) =>
    show CallPost W0 m inp R L { s with deep := max dp (n + 1), cs := ⟨bs, 0, 0, hd⟩ :: s.cs } w (.returned (.tuple #[])) (w3.drew.setCell ⟨R, 5, none⟩ (.int .i64 D)) from by
    have he' := he
    rw [← show L.gs.length = n from by have := HNN.out; omega] at he'
    obtain ⟨L', a, b, c⟩ := push_ok (u3 := w3.drew) (D := D) H0.out hp he' rfl rfl rfl rfl (bs := bs) HBL.out HCC.out.2.2.2 HCC.out.1
    rw [hD]
    exact ⟨⟨_, rfl⟩, L', a, (fr_quiet HB.out).trans b, c⟩)
  have hln : (n : Int) < (n : Int) + 1 := by omega
  have hwn : IntKind.i64.wrap (n : Int) = (n : Int) := by rw [IntKind.wrap_i64]; omega
  clear h h0 hf hfs hb0 hcap hc6 hH hfit hbl hBl hBk hlk hop htop hfm hopv hn hdp hnb hbs hnm hB0
  go_enter Try.func88, Try.ntmps88
  go_wp2_with fail
  refine wp_region_held_drew (S := (fun U => U.cell? ⟨R, 8, none⟩ = some (.map (some fm)) ∧ (Instr.lookup 98 (.map (some fm)) (.string nm) false).run Try.prog U = .ok (.slice (some ⟨bb, bo, none⟩) nb bc) U)) (by kernel_rfl) (by rw [hu0]; exact ⟨c8, l0⟩) ?_
  rw [hu0]
  intro hHeld
  refine wpAnyH_take (i := 0) (v := ?_) rfl (by kernel_rfl) (by kernel_rfl) (by kernel_rfl) (fun _ _ _ h => h) (Or.inl ⟨by rfl, ?_⟩) hHeld ?_
  rotate_left
  · intro W' hSw; (try dsimp only at hSw); go_simp; try (with_reducible rfl)
  (try simp only [Act.put, List.getElem_toArray, List.getElem_cons_zero, List.setIfInBounds_toArray, List.set_cons_zero, List.set_cons_succ])
  refine wpAnyH_take (i := 1) (v := ?_) rfl (by kernel_rfl) (by kernel_rfl) (by kernel_rfl) (fun _ _ _ h => h) (Or.inl ⟨by rfl, ?_⟩) hHeld ?_
  rotate_left
  · intro W' hSw; (try dsimp only at hSw); go_simp; try (with_reducible rfl)
  (try simp only [Act.put, List.getElem_toArray, List.getElem_cons_zero, List.getElem_cons_succ, List.setIfInBounds_toArray, List.set_cons_zero, List.set_cons_succ])
  refine wpAnyH_take (i := 2) (v := ?_) rfl (by kernel_rfl) (by kernel_rfl) (by kernel_rfl) (fun _ _ _ h => h) (Or.inl ⟨by rfl, ?_⟩) hHeld ?_
  rotate_left
  · intro W' hSw; (try dsimp only at hSw); go_simp; try (with_reducible rfl)
  (try simp only [Act.put, List.getElem_toArray, List.getElem_cons_zero, List.getElem_cons_succ, List.setIfInBounds_toArray, List.set_cons_zero, List.set_cons_succ])
  refine wpAnyH_take (i := 3) (v := ?_) rfl (by kernel_rfl) (by kernel_rfl) (by kernel_rfl) (fun _ _ _ h => h) (Or.inl ⟨by rfl, ?_⟩) hHeld ?_
  rotate_left
  · intro W' hSw; (try dsimp only at hSw); go_simp; try (with_reducible rfl)
  (try simp only [Act.put, List.getElem_toArray, List.getElem_cons_zero, List.getElem_cons_succ, List.setIfInBounds_toArray, List.set_cons_zero, List.set_cons_succ])
  refine wpAnyH_take (i := 5) (v := ?_) rfl (by kernel_rfl) (by kernel_rfl) (by kernel_rfl) (fun _ _ _ h => h) (Or.inl ⟨by rfl, ?_⟩) hHeld ?_
  rotate_left
  · intro W' hSw; (try dsimp only at hSw); go_simp; try (with_reducible rfl)
  (try simp only [Act.put, List.getElem_toArray, List.getElem_cons_zero, List.getElem_cons_succ, List.setIfInBounds_toArray, List.set_cons_zero, List.set_cons_succ])
  refine wpAnyH_take (i := 6) (v := ?_) rfl (by kernel_rfl) (by kernel_rfl) (by kernel_rfl) (fun _ _ _ h => h) (Or.inl ⟨by rfl, ?_⟩) hHeld ?_
  rotate_left
  · intro W' hSw; (try dsimp only at hSw); go_simp; try (with_reducible rfl)
  (try simp only [Act.put, List.getElem_toArray, List.getElem_cons_zero, List.getElem_cons_succ, List.setIfInBounds_toArray, List.set_cons_zero, List.set_cons_succ])
  refine wpAnyH_take (i := 7) (v := ?_) rfl (by kernel_rfl) (by kernel_rfl) (by kernel_rfl) (fun _ _ _ h => h) (Or.inl ⟨by rfl, ?_⟩) hHeld ?_
  rotate_left
  · intro W' hSw; (try dsimp only at hSw); go_simp; try (with_reducible rfl)
  (try simp only [Act.put, List.getElem_toArray, List.getElem_cons_zero, List.getElem_cons_succ, List.setIfInBounds_toArray, List.set_cons_zero, List.set_cons_succ])
  refine wpAnyH_take (i := 8) (v := ?_) rfl (by kernel_rfl) (by kernel_rfl) (by kernel_rfl) (fun _ _ _ h => h) (Or.inl ⟨by rfl, ?_⟩) hHeld ?_
  rotate_left
  · intro W' hSw; (try dsimp only at hSw); go_simp; try (with_reducible rfl)
  (try simp only [Act.put, List.getElem_toArray, List.getElem_cons_zero, List.getElem_cons_succ, List.setIfInBounds_toArray, List.set_cons_zero, List.set_cons_succ])
  refine wpAnyH_take (i := 9) (v := ?_) rfl (by kernel_rfl) (by kernel_rfl) (by kernel_rfl) (fun _ _ _ h => h) (Or.inl ⟨by rfl, ?_⟩) hHeld ?_
  rotate_left
  · intro W' hSw; (try dsimp only at hSw); go_simp; try (with_reducible rfl)
  (try simp only [Act.put, List.getElem_toArray, List.getElem_cons_zero, List.getElem_cons_succ, List.setIfInBounds_toArray, List.set_cons_zero, List.set_cons_succ])
  refine wpAnyH_take (i := 10) (v := ?_) rfl (by kernel_rfl) (by kernel_rfl) (by kernel_rfl) (fun _ _ _ h => h) (Or.inl ⟨by rfl, ?_⟩) hHeld ?_
  rotate_left
  · intro W' hSw; (try dsimp only at hSw); go_simp; try (with_reducible rfl)
  (try simp only [Act.put, List.getElem_toArray, List.getElem_cons_zero, List.getElem_cons_succ, List.setIfInBounds_toArray, List.set_cons_zero, List.set_cons_succ])
  refine wpAnyH_take (i := 11) (v := ?_) rfl (by kernel_rfl) (by kernel_rfl) (by kernel_rfl) (fun _ _ _ h => h) (Or.inl ⟨by rfl, ?_⟩) hHeld ?_
  rotate_left
  · intro W' hSw; (try dsimp only at hSw); go_simp; try (with_reducible rfl)
  (try simp only [Act.put, List.getElem_toArray, List.getElem_cons_zero, List.getElem_cons_succ, List.setIfInBounds_toArray, List.set_cons_zero, List.set_cons_succ])
  refine wpAnyH_ready (rs := [4, 12]) (by kernel_rfl) (by simp) ?_
  refine AllReadyH.cons rfl (fun K hK => ?_) (AllReadyH.cons rfl (fun K hK => ?_) AllReadyH.nil)
  · go_simp
    refine hK.out _ _ hHeld (fun _ => ?_)
    clear hK
    (try simp only [Act.put, List.getElem_toArray, List.getElem_cons_zero, List.getElem_cons_succ, List.setIfInBounds_toArray, List.set_cons_zero, List.set_cons_succ])
    refine wpAnyH_ready (rs := [12]) (by kernel_rfl) (by simp) ?_
    refine AllReadyH.cons rfl (fun K hK => ?_) AllReadyH.nil
    go_simp
    refine hK.out _ _ ⟨c8A, lA⟩ (fun _ => ?_)
    clear hK
    (try simp only [Act.put, List.getElem_toArray, List.getElem_cons_zero, List.getElem_cons_succ, List.setIfInBounds_toArray, List.set_cons_zero, List.set_cons_succ])
    refine wpAnyH_ready (rs := [13]) (by kernel_rfl) (by simp) ?_
    refine AllReadyH.cons rfl (fun K hK => ?_) AllReadyH.nil
    refine step_append_lies _ rfl (.tmp 10) (.tmp 18) 100 rfl 0 134 ic _ 4 64 Try.underlying100 hi hz0 hz1 hz2 rfl (by omega) opv n _ (by rfl) HOA.out ⟨u0.heap.size, 0, none⟩ 1 1 [.slice (some ⟨bb, bo, none⟩) nb bc, .int .i64 0, .int .i64 0, .slice none 0 0] (by rfl) rfl (World.news_of_block (heap_alloc_new u0 _)) (by intro u hu; simp at hu; rcases hu with rfl | rfl | rfl <;> rfl) (by omega) (by unfold maxLen; omega) (by omega) (Nat.zero_le _) _ rfl ?_
    intro og ocap w1 ho1 hg1 hat1 hlt1
    obtain ⟨hp, a10, z10, a8, aM⟩ := HP1.out w1 og ocap hg1 hat1 hlt1 ho1
    refine hK.out _ _ ⟨a8, HLK.out _ aM⟩ (fun hHeld2 => ?_)
    clear hK
    (try simp only [Act.put, List.getElem_toArray, List.getElem_cons_zero, List.getElem_cons_succ, List.setIfInBounds_toArray, List.set_cons_zero, List.set_cons_succ])
    refine wpAnyH_take (i := 14) (v := ?_) rfl (by kernel_rfl) (by kernel_rfl) (by kernel_rfl) (fun _ _ _ h => h) (Or.inl ⟨by rfl, ?_⟩) hHeld2 ?_
    rotate_left
    · intro W' hSw; (try dsimp only at hSw); go_simp; try (with_reducible rfl)
    (try simp only [Act.put, List.getElem_toArray, List.getElem_cons_zero, List.getElem_cons_succ, List.setIfInBounds_toArray, List.set_cons_zero, List.set_cons_succ])
    refine wpAnyH_take (i := 15) (v := ?_) rfl (by kernel_rfl) (by kernel_rfl) (by kernel_rfl) (fun _ _ _ h => h) (Or.inl ⟨by rfl, ?_⟩) hHeld2 ?_
    rotate_left
    · intro W' hSw; (try dsimp only at hSw); go_simp; try (with_reducible rfl)
    (try simp only [Act.put, List.getElem_toArray, List.getElem_cons_zero, List.getElem_cons_succ, List.setIfInBounds_toArray, List.set_cons_zero, List.set_cons_succ])
    refine wpAnyH_ready (rs := [16]) (by kernel_rfl) (by simp) ?_
    refine AllReadyH.cons rfl (fun K hK => ?_) AllReadyH.nil
    go_simp
    obtain ⟨b8, bM⟩ := HPM.out _ _ _ hp
    refine hK.out _ _ ⟨b8, HLK.out _ bM⟩ (fun _ => ?_)
    clear hK
    (try simp only [Act.put, List.getElem_toArray, List.getElem_cons_zero, List.getElem_cons_succ, List.setIfInBounds_toArray, List.set_cons_zero, List.set_cons_succ])
    refine wpAnyH_done (by kernel_rfl) ?_ _
    clear hHeld a10 z10 a8 aM b8 bM ho1 hg1 hat1 hlt1 c8A c10A lA c8 c10 l0
    have HP := Lib.hid hp
    generalize w1.setCell ⟨R, 10, none⟩ (.slice (some ⟨og, 0, none⟩) (n + 1) ocap) = w2 at *
    clear hp
    go_wp2_with fail
    refine tail_drewV 12 (by kernel_rfl) (by kernel_rfl) ?_
    have HP2 := Lib.hid HP.out.drew
    have c10 : w2.drew.cell? ⟨R, 10, none⟩ = some (.slice (some ⟨og, 0, none⟩) (n + 1) ocap) := by have h := Lib.cell_of_heap HP2.out.hR 10; rw [show L.gs.length = n from by have := HNN.out; omega] at h; exact h
    generalize w2.drew = u2 at *
    simp only [List.take_succ_cons, List.take_zero, List.drop_succ_cons, List.drop_zero]
    repeat still_step
    try refine wpStill_nil ?_
    go_wp2_with fail
    have HEN := Lib.hid (enter_any og ocap (n + 1) n 0 cap (gcsV L.gs ++ [.slice (some ⟨bb, bo, none⟩) nb bc, .int .i64 0, .int .i64 0, .slice none 0 0]) bb bo nb bc b0 hv hd u2 (by omega) (by have h := HP2.out.hop; rw [show L.gs.length = n from by have := HNN.out; omega] at h; exact h) (by rw [List.getElem?_append_right (by rw [gcsV_length]; have := HNN.out; omega), gcsV_length, show n * 4 - L.gs.length * 4 = 0 from by have := HNN.out; omega]; rfl) h0l (HBOG.out _ _ _ HP2.out) (HBK2.out _ _ _ HP2.out) HCC.out.1 HCC.out.2.1 (HHD2.out _ _ _ HP2.out) HCC.out.2.2.1)
    refine HEN.out.mono ?_
    intro e w3 he
    obtain ⟨⟨v, rfl⟩, -⟩ := id he
    have HE := Lib.hid he
    clear he
    go_wp2_with fail
    refine tail_drewV 15 (by kernel_rfl) (by kernel_rfl) ?_
    obtain ⟨d5, d10, z5⟩ := HEC.out _ _ _ _ _ HP2.out HE.out
    have HF3 := Lib.hid (HFIN.out _ _ _ _ _ HP2.out HE.out)
    generalize w3.drew = u3 at *
    simp only [List.take_succ_cons, List.take_zero, List.drop_succ_cons, List.drop_zero]
    repeat still_step
    try refine wpStill_nil ?_
    go_wp2_with fail
    · rename_i hle
      exact bodyPost_end (results_none Try.results88 _ _ _) rfl (HF3.out (n + 1) (by omega))
    · rename_i hle
      exact bodyPost_end (results_none Try.results88 _ _ _) rfl (HF3.out dp (by omega))
  · go_simp
    refine hK.out _ _ ⟨c8A, lA⟩ (fun _ => ?_)
    clear hK
    (try simp only [Act.put, List.getElem_toArray, List.getElem_cons_zero, List.getElem_cons_succ, List.setIfInBounds_toArray, List.set_cons_zero, List.set_cons_succ])
    refine wpAnyH_ready (rs := [4]) (by kernel_rfl) (by simp) ?_
    refine AllReadyH.cons rfl (fun K hK => ?_) AllReadyH.nil
    go_simp
    refine hK.out _ _ ⟨c8A, lA⟩ (fun _ => ?_)
    clear hK
    (try simp only [Act.put, List.getElem_toArray, List.getElem_cons_zero, List.getElem_cons_succ, List.setIfInBounds_toArray, List.set_cons_zero, List.set_cons_succ])
    refine wpAnyH_ready (rs := [13]) (by kernel_rfl) (by simp) ?_
    refine AllReadyH.cons rfl (fun K hK => ?_) AllReadyH.nil
    refine step_append_lies _ rfl (.tmp 10) (.tmp 18) 100 rfl 0 134 ic _ 4 64 Try.underlying100 hi hz0 hz1 hz2 rfl (by omega) opv n _ (by rfl) HOA.out ⟨u0.heap.size, 0, none⟩ 1 1 [.slice (some ⟨bb, bo, none⟩) nb bc, .int .i64 0, .int .i64 0, .slice none 0 0] (by rfl) rfl (World.news_of_block (heap_alloc_new u0 _)) (by intro u hu; simp at hu; rcases hu with rfl | rfl | rfl <;> rfl) (by omega) (by unfold maxLen; omega) (by omega) (Nat.zero_le _) _ rfl ?_
    intro og ocap w1 ho1 hg1 hat1 hlt1
    obtain ⟨hp, a10, z10, a8, aM⟩ := HP1.out w1 og ocap hg1 hat1 hlt1 ho1
    refine hK.out _ _ ⟨a8, HLK.out _ aM⟩ (fun hHeld2 => ?_)
    clear hK
    (try simp only [Act.put, List.getElem_toArray, List.getElem_cons_zero, List.getElem_cons_succ, List.setIfInBounds_toArray, List.set_cons_zero, List.set_cons_succ])
    refine wpAnyH_take (i := 14) (v := ?_) rfl (by kernel_rfl) (by kernel_rfl) (by kernel_rfl) (fun _ _ _ h => h) (Or.inl ⟨by rfl, ?_⟩) hHeld2 ?_
    rotate_left
    · intro W' hSw; (try dsimp only at hSw); go_simp; try (with_reducible rfl)
    (try simp only [Act.put, List.getElem_toArray, List.getElem_cons_zero, List.getElem_cons_succ, List.setIfInBounds_toArray, List.set_cons_zero, List.set_cons_succ])
    refine wpAnyH_take (i := 15) (v := ?_) rfl (by kernel_rfl) (by kernel_rfl) (by kernel_rfl) (fun _ _ _ h => h) (Or.inl ⟨by rfl, ?_⟩) hHeld2 ?_
    rotate_left
    · intro W' hSw; (try dsimp only at hSw); go_simp; try (with_reducible rfl)
    (try simp only [Act.put, List.getElem_toArray, List.getElem_cons_zero, List.getElem_cons_succ, List.setIfInBounds_toArray, List.set_cons_zero, List.set_cons_succ])
    refine wpAnyH_ready (rs := [16]) (by kernel_rfl) (by simp) ?_
    refine AllReadyH.cons rfl (fun K hK => ?_) AllReadyH.nil
    go_simp
    obtain ⟨b8, bM⟩ := HPM.out _ _ _ hp
    refine hK.out _ _ ⟨b8, HLK.out _ bM⟩ (fun _ => ?_)
    clear hK
    (try simp only [Act.put, List.getElem_toArray, List.getElem_cons_zero, List.getElem_cons_succ, List.setIfInBounds_toArray, List.set_cons_zero, List.set_cons_succ])
    refine wpAnyH_done (by kernel_rfl) ?_ _
    clear hHeld a10 z10 a8 aM b8 bM ho1 hg1 hat1 hlt1 c8A c10A lA c8 c10 l0
    have HP := Lib.hid hp
    generalize w1.setCell ⟨R, 10, none⟩ (.slice (some ⟨og, 0, none⟩) (n + 1) ocap) = w2 at *
    clear hp
    go_wp2_with fail
    refine tail_drewV 12 (by kernel_rfl) (by kernel_rfl) ?_
    have HP2 := Lib.hid HP.out.drew
    have c10 : w2.drew.cell? ⟨R, 10, none⟩ = some (.slice (some ⟨og, 0, none⟩) (n + 1) ocap) := by have h := Lib.cell_of_heap HP2.out.hR 10; rw [show L.gs.length = n from by have := HNN.out; omega] at h; exact h
    generalize w2.drew = u2 at *
    simp only [List.take_succ_cons, List.take_zero, List.drop_succ_cons, List.drop_zero]
    repeat still_step
    try refine wpStill_nil ?_
    go_wp2_with fail
    have HEN := Lib.hid (enter_any og ocap (n + 1) n 0 cap (gcsV L.gs ++ [.slice (some ⟨bb, bo, none⟩) nb bc, .int .i64 0, .int .i64 0, .slice none 0 0]) bb bo nb bc b0 hv hd u2 (by omega) (by have h := HP2.out.hop; rw [show L.gs.length = n from by have := HNN.out; omega] at h; exact h) (by rw [List.getElem?_append_right (by rw [gcsV_length]; have := HNN.out; omega), gcsV_length, show n * 4 - L.gs.length * 4 = 0 from by have := HNN.out; omega]; rfl) h0l (HBOG.out _ _ _ HP2.out) (HBK2.out _ _ _ HP2.out) HCC.out.1 HCC.out.2.1 (HHD2.out _ _ _ HP2.out) HCC.out.2.2.1)
    refine HEN.out.mono ?_
    intro e w3 he
    obtain ⟨⟨v, rfl⟩, -⟩ := id he
    have HE := Lib.hid he
    clear he
    go_wp2_with fail
    refine tail_drewV 15 (by kernel_rfl) (by kernel_rfl) ?_
    obtain ⟨d5, d10, z5⟩ := HEC.out _ _ _ _ _ HP2.out HE.out
    have HF3 := Lib.hid (HFIN.out _ _ _ _ _ HP2.out HE.out)
    generalize w3.drew = u3 at *
    simp only [List.take_succ_cons, List.take_zero, List.drop_succ_cons, List.drop_zero]
    repeat still_step
    try refine wpStill_nil ?_
    go_wp2_with fail
    · rename_i hle
      exact bodyPost_end (results_none Try.results88 _ _ _) rfl (HF3.out (n + 1) (by omega))
    · rename_i hle
      exact bodyPost_end (results_none Try.results88 _ _ _) rfl (HF3.out dp (by omega))
end Go.Proofs.Ytkalgiaapkjplaa
