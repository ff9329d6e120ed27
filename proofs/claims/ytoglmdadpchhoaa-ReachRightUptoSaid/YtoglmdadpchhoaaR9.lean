/- Package reach: Drop. -/
import Derived.Test.YtoglmdadpchhoaaR8
namespace Go.Proofs.Ytoglmdadpchhoaa
open Go.RowKit Go.Shelf

/-- a module that a call gives -/
def GivenMd (k : Md) (w : World) (e : Ending) (w' : World) : Prop :=
  ∃ F cf G cg, e = .returned (.agg #[.slice F k.f.length cf, .slice G k.g.length cg]) ∧ Below w.heap.size w w' ∧ MdAt w' (.slice F k.f.length cf) (.slice G k.g.length cg) k
theorem md_setc {w W : World} {B bx : Nat} {c0 c1 : Value} (h : W.cell? ⟨B, 0, none⟩ = some c0 ∧ W.cell? ⟨B, 1, none⟩ = some c1 ∧ Below w.heap.size w W) (hb : w.heap.size + 2 ≤ bx) (u : Value) (hB : B = w.heap.size := by rfl) :
    (W.setCell ⟨bx, 0, none⟩ u).cell? ⟨B, 0, none⟩ = some c0 ∧ (W.setCell ⟨bx, 0, none⟩ u).cell? ⟨B, 1, none⟩ = some c1 ∧ Below w.heap.size w (W.setCell ⟨bx, 0, none⟩ u) := by
  obtain ⟨h0, h1, h2⟩ := h
  subst hB
  have e : (W.setCell ⟨bx, 0, none⟩ u).heap[w.heap.size]? = W.heap[w.heap.size]? := Below.heap_setCell _ _ _ _ (by simp; omega)
  exact ⟨(World.cell?_of_block e).trans h0, (World.cell?_of_block e).trans h1, below_setc h2 (by simp; omega)⟩
theorem bnot_filter {α : Type} (p : α → Bool) (l : List α) : (l.filter fun x => !(!p x)) = l.filter p := by simp only [Bool.not_not]
/-- the names that stay are laid down -/
structure DropIn (w : World) (F G : Value) (T : List ByteArray) (n bx b : Nat) (W : World) : Prop where
  za : Whole W w.heap.size 25 #[F, G]
  zr : Whole W (w.heap.size + 1) 25 #[.slice none 0 0, .slice none 0 0]
  bw : Below w.heap.size w W
  cx : W.cell? ⟨bx, 0, none⟩ = some (.map (some b))
  st : SetAt W b n T
  lx : w.heap.size + 2 ≤ bx
  sx : bx < W.heap.size
theorem dropIn_mk {w W : World} {F G : Value} {T : List ByteArray} {n bx b : Nat} (h1 : Whole W w.heap.size 25 #[F, G]) (h2 : Whole W (w.heap.size + 1) 25 #[.slice none 0 0, .slice none 0 0]) (h3 : Below w.heap.size w W) (h4 : Whole W bx 83 #[.map none]) (h5 : SetAt W b n T) (h6 : w.heap.size + 2 ≤ bx) :
    DropIn w F G T n bx b (W.setCell ⟨bx, 0, none⟩ (.map (some b))) := by
  have hne : b ≠ bx := fun e => by
    obtain ⟨es, clock, he, -⟩ := h5
    subst e
    rw [show W.heap[b]? = _ from h4] at he
    cases he
  refine ⟨h1.set _ _ (by simp; omega), h2.set _ _ (by simp; omega), below_setc h3 (by simp; omega), (h4.put 0 _).cell 0, h5.same (Below.heap_setCell _ _ _ _ (by simpa using hne)), h6, ?_⟩
  have := h4.lt
  simpa using this
set_option maxRecDepth 100000 in
set_option maxHeartbeats 16000000 in
theorem drop_any (m : Md) (F G : Option Addr) (nf cf ng cg : Nat) (w : World) (hok : MdOk m) (hk : MdK 1048576 m) (hnf : m.f.length = nf) (hng : m.g.length = ng) (hS : MdAt w (.slice F nf cf) (.slice G ng cg) m) :
    Calls Try.prog 18 #[.agg #[.slice F nf cf, .slice G ng cg]] w (GivenMd (dropE m) w) := by
  have hrk : ∀ s ∈ rootsE m, s.size < 9223372036854775808 := fun s hs => by
    have h := roots_names hs
    unfold namesM at h
    rcases List.mem_append.1 h with h | h
    · obtain ⟨f, hf, rfl⟩ := List.mem_map.1 h
      exact (hok.1 f hf).1
    · obtain ⟨g, hg, rfl⟩ := List.mem_map.1 h
      exact hok.2.1 g hg
  have hrl : (rootsE m).length ≤ 1048576 := by have := roots_len m; have := hk.1; omega
  have hfk : ∀ s ∈ fromE m (rootsE m), s.size < 9223372036854775808 := fun s hs => by
    have h := ((from_mem _ _ _).1 hs).1
    unfold namesM at h
    rcases List.mem_append.1 h with h | h
    · obtain ⟨f, hf, rfl⟩ := List.mem_map.1 h
      exact (hok.1 f hf).1
    · obtain ⟨g, hg, rfl⟩ := List.mem_map.1 h
      exact hok.2.1 g hg
  have hfl : (fromE m (rootsE m)).length ≤ 1048576 := by have := from_few m (rootsE m); have := hk.1; omega
  have HRO := Lib.hid (fun (U : World) (hU : Below w.heap.size w U) => roots_any m F G nf cf ng cg U hnf hng (by have := hk.1; omega) ⟨hS.1.next hU, hS.2.next hU⟩)
  have HFR := Lib.hid (fun (U : World) (hU : Below w.heap.size w U) (A : Option Addr) (nr cr : Nat) (hr : (rootsE m).length = nr) (hR : Strs U (.slice A nr cr) (rootsE m)) => from_any m F G nf cf ng cg (rootsE m) A nr cr U hok hk hok.2.1 hnf hng ⟨hS.1.next hU, hS.2.next hU⟩ hr (by omega) hrk hR)
  have HMO := Lib.hid (fun (U : World) (hU : Below w.heap.size w U) => ownModule_any m F G cf cg U hk (by rw [hnf, hng]; exact ⟨hS.1.next hU, hS.2.next hU⟩))
  rw [hnf, hng] at HMO
  have HKF := Lib.hid (show ∀ x ∈ m.f, x.s.size < 9223372036854775808 from fun x hx => (hok.1 x hx).1)
  have HKG := Lib.hid (show ∀ x ∈ m.g, x.s.size < 9223372036854775808 from hok.2.1)
  have HNF := Lib.hid hnf
  have HNG := Lib.hid hng
  have HN9 := Lib.hid (show nf + ng ≤ 1048576 by have := hk.1; omega)
  obtain ⟨R, hR⟩ : ∃ R, rootsE m = R := ⟨_, rfl⟩
  obtain ⟨T, hT⟩ : ∃ T, fromE m R = T := ⟨_, rfl⟩
  have HDE := Lib.hid (show dropE m = ⟨m.f.filter fun f => decide (f.s ∈ T), m.g.filter fun g => decide (g.s ∈ T)⟩ by unfold dropE; rw [hR, hT])
  rw [hR] at HRO HFR
  rw [hR, hT] at hfk hfl
  rw [hT] at HFR
  obtain ⟨nR, hnR⟩ : ∃ q, R.length = q := ⟨_, rfl⟩
  obtain ⟨nT, hnT⟩ : ∃ q, T.length = q := ⟨_, rfl⟩
  unfold MadeN at HRO HFR
  rw [hnR] at HRO
  rw [hnT] at HFR
  have HNR := Lib.hid hnR
  have HAM := Lib.hid (fun (U : World) (A : Option Addr) (c : Nat) (hs : Strs U (.slice A nT c) T) => among_names T A nT c U hnT (by omega) hfk hs)
  clear hrk hrl hfk hfl hok hk hnf hng hS hR hT hnR hnT
  obtain ⟨w0, hw0⟩ : ∃ U, (w.alloc (.cells #[.slice F nf cf, .slice G ng cg] 25)).alloc (.cells #[.slice none 0 0, .slice none 0 0] 25) = U := ⟨_, rfl⟩
  obtain ⟨hb0, hz0, hz1, hsz⟩ := two_new w 25 #[.slice F nf cf, .slice G ng cg] #[.slice none 0 0, .slice none 0 0]
  rw [hw0] at hb0 hz0 hz1 hsz
  have HZA := Lib.hid hz0
  have HZR := Lib.hid hz1
  have HS0 := Lib.hid (show w.heap.size + 2 ≤ w0.heap.size by omega)
  have hd : w0.drew.cell? ⟨w.heap.size, 0, none⟩ = some (.slice F nf cf) ∧ w0.drew.cell? ⟨w.heap.size, 1, none⟩ = some (.slice G ng cg) ∧ Below w.heap.size w w0.drew := ⟨hz0.cell 0, hz0.cell 1, hb0.drew⟩
  have HB0 := Lib.hid hb0
  clear hz0 hz1 hb0 hsz
  go_enter Try.func18, Try.ntmps18
  go_upto_region 7 with fail
  try rw [hw0]
  clear hw0
  have HZA0 := Lib.hid (HZA.out.next (Below.refl _ w0).drew)
  have HZR0 := Lib.hid (HZR.out.next (Below.refl _ w0).drew)
  have HSZ0 := Lib.hid (show w.heap.size + 2 ≤ w0.drew.heap.size from HS0.out)
  go_cut [3] from 4 to 9 (fun v3 wx => ∃ bx b, v3 = .pointer (some ⟨bx, 0, none⟩) ∧ DropIn w (.slice F nf cf) (.slice G ng cg) T nT bx b wx)
  case first =>
    refine wp_region_held_drew (S := fun W' => W'.cell? ⟨w.heap.size, 0, none⟩ = some (.slice F nf cf) ∧ W'.cell? ⟨w.heap.size, 1, none⟩ = some (.slice G ng cg) ∧ Below w.heap.size w W') (by kernel_rfl) hd (fun hHeld => ?_)
    refine wpAnyH_take (i := 0) (v := ?_) rfl (by kernel_rfl) (by kernel_rfl) (by kernel_rfl) (fun _ _ _ h => h) (Or.inl ⟨by rfl, ?_⟩) hHeld ?_
    rotate_left
    · intro W' hSw; (try dsimp only at hSw); go_simp; try (with_reducible rfl)
    (try simp only [Act.put, List.getElem_toArray, List.getElem_cons_zero, List.setIfInBounds_toArray, List.set_cons_zero, List.set_cons_succ])
    refine wpAnyH_take (i := 1) (v := ?_) rfl (by kernel_rfl) (by kernel_rfl) (by kernel_rfl) (fun _ _ _ h => h) (Or.inl ⟨by rfl, ?_⟩) hHeld ?_
    rotate_left
    · intro W' hSw; (try dsimp only at hSw); go_simp; try (with_reducible rfl)
    (try simp only [Act.put, List.getElem_toArray, List.getElem_cons_zero, List.getElem_cons_succ, List.setIfInBounds_toArray, List.set_cons_zero, List.set_cons_succ])
    refine wpAnyH_ready (rs := [2, 5]) (by kernel_rfl) (by simp) ?_
    refine AllReadyH.cons rfl (fun K hK => ?_) (AllReadyH.cons rfl (fun K hK => ?_) AllReadyH.nil)
    · go_simp
      refine Calls.mono (HRO.out _ (md_below hd)) ?_
      rintro r u1 ⟨A1, c1, rfl, hb1, ho1⟩
      have hd1 := md_next hb1 hd
      have HZA1 := Lib.hid (HZA0.out.next hb1)
      have HZR1 := Lib.hid (HZR0.out.next hb1)
      have HSZ1 := Lib.hid (Nat.le_trans HSZ0.out hb1.size)
      have HST1 := Lib.hid ho1.strs
      refine hK.out _ _ hd1 (fun hHeld => ?_)
      clear hK
      (try simp only [Act.put, List.getElem_toArray, List.getElem_cons_zero, List.getElem_cons_succ, List.setIfInBounds_toArray, List.set_cons_zero, List.set_cons_succ])
      refine wpAnyH_ready (rs := [3, 5]) (by kernel_rfl) (by simp) ?_
      refine AllReadyH.cons rfl (fun K hK => ?_) (AllReadyH.cons rfl (fun K hK => ?_) AllReadyH.nil)
      · go_simp
        refine Calls.mono (HFR.out _ (md_below hd1) A1 nR c1 HNR.out HST1.out) ?_
        rintro r u2 ⟨A2, c2, rfl, hb2, ho2⟩
        have hd2 := md_next hb2 hd1
        have HZA2 := Lib.hid (HZA1.out.next hb2)
        have HZR2 := Lib.hid (HZR1.out.next hb2)
        have HSZ2 := Lib.hid (Nat.le_trans HSZ1.out hb2.size)
        have HST2 := Lib.hid ho2.strs
        refine hK.out _ _ hd2 (fun hHeld => ?_)
        clear hK
        (try simp only [Act.put, List.getElem_toArray, List.getElem_cons_zero, List.getElem_cons_succ, List.setIfInBounds_toArray, List.set_cons_zero, List.set_cons_succ])
        refine wpAnyH_ready (rs := [4, 5]) (by kernel_rfl) (by simp) ?_
        refine AllReadyH.cons rfl (fun K hK => ?_) (AllReadyH.cons rfl (fun K hK => ?_) AllReadyH.nil)
        · go_simp
          refine Calls.mono (HAM.out _ A2 c2 HST2.out) ?_
          rintro r u3 ⟨b, rfl, hb3, -, -, ho3⟩
          have hd3 := md_next hb3 hd2
          have HZA3 := Lib.hid (HZA2.out.next hb3)
          have HZR3 := Lib.hid (HZR2.out.next hb3)
          have HSZ3 := Lib.hid (Nat.le_trans HSZ2.out hb3.size)
          have HST3 := Lib.hid ho3
          refine hK.out _ _ hd3 (fun hHeld => ?_)
          clear hK
          (try simp only [Act.put, List.getElem_toArray, List.getElem_cons_zero, List.getElem_cons_succ, List.setIfInBounds_toArray, List.set_cons_zero, List.set_cons_succ])
          refine wpAnyH_ready (rs := [5]) (by kernel_rfl) (by simp) ?_
          refine AllReadyH.cons rfl (fun K hK => ?_) AllReadyH.nil
          go_simp
          have hba4 := balloc (Below.refl _ (u3)) (.cells #[.map none] 83)
          have hd4 := md_next hba4 hd3
          have HX4 := Lib.hid (show Whole _ (u3).heap.size 83 #[.map none] from heap_alloc_new (u3) _)
          have HLX4 := Lib.hid HSZ3.out
          have HZA4 := Lib.hid (HZA3.out.next hba4)
          have HZR4 := Lib.hid (HZR3.out.next hba4)
          have HSZ4 := Lib.hid (Nat.le_trans HSZ3.out hba4.size)
          have HST4 := Lib.hid (HST3.out.same (hba4.block b HST3.out.lt))
          refine hK.out _ _ hd4 (fun hHeld => ?_)
          clear hK
          (try simp only [Act.put, List.getElem_toArray, List.getElem_cons_zero, List.getElem_cons_succ, List.setIfInBounds_toArray, List.set_cons_zero, List.set_cons_succ])
          have e9 := HX4.out.cell 0
          have f9 := HX4.out.free 0
          simp only [List.getElem?_toArray, List.getElem?_cons_zero] at e9
          have HFIN := Lib.hid (dropIn_mk HZA4.out HZR4.out (md_below hd4) HX4.out HST4.out HLX4.out)
          have hdz := md_setc hd4 HLX4.out (.map (some b))
          rw [World.setCell_alloc_new] at hdz HFIN
          refine wpAnyH_ready (rs := [6]) (by kernel_rfl) (by simp) ?_
          refine AllReadyH.cons rfl (fun K hK => ?_) AllReadyH.nil
          go_simp
          refine hK.out _ _ hdz (fun hHeld => ?_)
          clear hK hdz e9 f9
          (try simp only [Act.put, List.getElem_toArray, List.getElem_cons_zero, List.getElem_cons_succ, List.setIfInBounds_toArray, List.set_cons_zero, List.set_cons_succ])
          refine wpAnyH_done (by kernel_rfl) ?_ _
          go_wp2_with fail
          go_meet
          exact ⟨_, _, rfl, HFIN.out⟩
        · go_simp
          have hba3 := balloc (Below.refl _ (u2)) (.cells #[.map none] 83)
          have hd3 := md_next hba3 hd2
          have HX3 := Lib.hid (show Whole _ (u2).heap.size 83 #[.map none] from heap_alloc_new (u2) _)
          have HLX3 := Lib.hid HSZ2.out
          have HZA3 := Lib.hid (HZA2.out.next hba3)
          have HZR3 := Lib.hid (HZR2.out.next hba3)
          have HSZ3 := Lib.hid (Nat.le_trans HSZ2.out hba3.size)
          have HST3 := Lib.hid (HST2.out.next hba3)
          refine hK.out _ _ hd3 (fun hHeld => ?_)
          clear hK
          (try simp only [Act.put, List.getElem_toArray, List.getElem_cons_zero, List.getElem_cons_succ, List.setIfInBounds_toArray, List.set_cons_zero, List.set_cons_succ])
          refine wpAnyH_ready (rs := [4]) (by kernel_rfl) (by simp) ?_
          refine AllReadyH.cons rfl (fun K hK => ?_) AllReadyH.nil
          go_simp
          refine Calls.mono (HAM.out _ A2 c2 HST3.out) ?_
          rintro r u4 ⟨b, rfl, hb4, -, -, ho4⟩
          have hd4 := md_next hb4 hd3
          have HZA4 := Lib.hid (HZA3.out.next hb4)
          have HZR4 := Lib.hid (HZR3.out.next hb4)
          have HSZ4 := Lib.hid (Nat.le_trans HSZ3.out hb4.size)
          have HST4 := Lib.hid ho4
          have HX4 := Lib.hid (HX3.out.next hb4)
          have HLX4 := Lib.hid HLX3.out
          refine hK.out _ _ hd4 (fun hHeld => ?_)
          clear hK
          (try simp only [Act.put, List.getElem_toArray, List.getElem_cons_zero, List.getElem_cons_succ, List.setIfInBounds_toArray, List.set_cons_zero, List.set_cons_succ])
          have e9 := HX4.out.cell 0
          have f9 := HX4.out.free 0
          simp only [List.getElem?_toArray, List.getElem?_cons_zero] at e9
          have HFIN := Lib.hid (dropIn_mk HZA4.out HZR4.out (md_below hd4) HX4.out HST4.out HLX4.out)
          have hdz := md_setc hd4 HLX4.out (.map (some b))
          refine wpAnyH_ready (rs := [6]) (by kernel_rfl) (by simp) ?_
          refine AllReadyH.cons rfl (fun K hK => ?_) AllReadyH.nil
          go_simp
          refine hK.out _ _ hdz (fun hHeld => ?_)
          clear hK hdz e9 f9
          (try simp only [Act.put, List.getElem_toArray, List.getElem_cons_zero, List.getElem_cons_succ, List.setIfInBounds_toArray, List.set_cons_zero, List.set_cons_succ])
          refine wpAnyH_done (by kernel_rfl) ?_ _
          go_wp2_with fail
          go_meet
          exact ⟨_, _, rfl, HFIN.out⟩
      · go_simp
        have hba2 := balloc (Below.refl _ (u1)) (.cells #[.map none] 83)
        have hd2 := md_next hba2 hd1
        have HX2 := Lib.hid (show Whole _ (u1).heap.size 83 #[.map none] from heap_alloc_new (u1) _)
        have HLX2 := Lib.hid HSZ1.out
        have HZA2 := Lib.hid (HZA1.out.next hba2)
        have HZR2 := Lib.hid (HZR1.out.next hba2)
        have HSZ2 := Lib.hid (Nat.le_trans HSZ1.out hba2.size)
        have HST2 := Lib.hid (HST1.out.next hba2)
        refine hK.out _ _ hd2 (fun hHeld => ?_)
        clear hK
        (try simp only [Act.put, List.getElem_toArray, List.getElem_cons_zero, List.getElem_cons_succ, List.setIfInBounds_toArray, List.set_cons_zero, List.set_cons_succ])
        refine wpAnyH_ready (rs := [3]) (by kernel_rfl) (by simp) ?_
        refine AllReadyH.cons rfl (fun K hK => ?_) AllReadyH.nil
        go_simp
        refine Calls.mono (HFR.out _ (md_below hd2) A1 nR c1 HNR.out HST2.out) ?_
        rintro r u3 ⟨A2, c2, rfl, hb3, ho3⟩
        have hd3 := md_next hb3 hd2
        have HZA3 := Lib.hid (HZA2.out.next hb3)
        have HZR3 := Lib.hid (HZR2.out.next hb3)
        have HSZ3 := Lib.hid (Nat.le_trans HSZ2.out hb3.size)
        have HST3 := Lib.hid ho3.strs
        have HX3 := Lib.hid (HX2.out.next hb3)
        have HLX3 := Lib.hid HLX2.out
        refine hK.out _ _ hd3 (fun hHeld => ?_)
        clear hK
        (try simp only [Act.put, List.getElem_toArray, List.getElem_cons_zero, List.getElem_cons_succ, List.setIfInBounds_toArray, List.set_cons_zero, List.set_cons_succ])
        refine wpAnyH_ready (rs := [4]) (by kernel_rfl) (by simp) ?_
        refine AllReadyH.cons rfl (fun K hK => ?_) AllReadyH.nil
        go_simp
        refine Calls.mono (HAM.out _ A2 c2 HST3.out) ?_
        rintro r u4 ⟨b, rfl, hb4, -, -, ho4⟩
        have hd4 := md_next hb4 hd3
        have HZA4 := Lib.hid (HZA3.out.next hb4)
        have HZR4 := Lib.hid (HZR3.out.next hb4)
        have HSZ4 := Lib.hid (Nat.le_trans HSZ3.out hb4.size)
        have HST4 := Lib.hid ho4
        have HX4 := Lib.hid (HX3.out.next hb4)
        have HLX4 := Lib.hid HLX3.out
        refine hK.out _ _ hd4 (fun hHeld => ?_)
        clear hK
        (try simp only [Act.put, List.getElem_toArray, List.getElem_cons_zero, List.getElem_cons_succ, List.setIfInBounds_toArray, List.set_cons_zero, List.set_cons_succ])
        have e9 := HX4.out.cell 0
        have f9 := HX4.out.free 0
        simp only [List.getElem?_toArray, List.getElem?_cons_zero] at e9
        have HFIN := Lib.hid (dropIn_mk HZA4.out HZR4.out (md_below hd4) HX4.out HST4.out HLX4.out)
        have hdz := md_setc hd4 HLX4.out (.map (some b))
        refine wpAnyH_ready (rs := [6]) (by kernel_rfl) (by simp) ?_
        refine AllReadyH.cons rfl (fun K hK => ?_) AllReadyH.nil
        go_simp
        refine hK.out _ _ hdz (fun hHeld => ?_)
        clear hK hdz e9 f9
        (try simp only [Act.put, List.getElem_toArray, List.getElem_cons_zero, List.getElem_cons_succ, List.setIfInBounds_toArray, List.set_cons_zero, List.set_cons_succ])
        refine wpAnyH_done (by kernel_rfl) ?_ _
        go_wp2_with fail
        go_meet
        exact ⟨_, _, rfl, HFIN.out⟩
    · go_simp
      have hba1 := balloc (Below.refl _ (w0.drew)) (.cells #[.map none] 83)
      have hd1 := md_next hba1 hd
      have HX1 := Lib.hid (show Whole _ w0.heap.size 83 #[.map none] from heap_alloc_new (w0.drew) _)
      have HLX1 := Lib.hid HSZ0.out
      have HZA1 := Lib.hid (HZA0.out.next hba1)
      have HZR1 := Lib.hid (HZR0.out.next hba1)
      have HSZ1 := Lib.hid (Nat.le_trans HSZ0.out hba1.size)
      refine hK.out _ _ hd1 (fun hHeld => ?_)
      clear hK
      (try simp only [Act.put, List.getElem_toArray, List.getElem_cons_zero, List.getElem_cons_succ, List.setIfInBounds_toArray, List.set_cons_zero, List.set_cons_succ])
      refine wpAnyH_ready (rs := [2]) (by kernel_rfl) (by simp) ?_
      refine AllReadyH.cons rfl (fun K hK => ?_) AllReadyH.nil
      go_simp
      refine Calls.mono (HRO.out _ (md_below hd1)) ?_
      rintro r u2 ⟨A1, c1, rfl, hb2, ho2⟩
      have hd2 := md_next hb2 hd1
      have HZA2 := Lib.hid (HZA1.out.next hb2)
      have HZR2 := Lib.hid (HZR1.out.next hb2)
      have HSZ2 := Lib.hid (Nat.le_trans HSZ1.out hb2.size)
      have HST2 := Lib.hid ho2.strs
      have HX2 := Lib.hid (HX1.out.next hb2)
      have HLX2 := Lib.hid HLX1.out
      refine hK.out _ _ hd2 (fun hHeld => ?_)
      clear hK
      (try simp only [Act.put, List.getElem_toArray, List.getElem_cons_zero, List.getElem_cons_succ, List.setIfInBounds_toArray, List.set_cons_zero, List.set_cons_succ])
      refine wpAnyH_ready (rs := [3]) (by kernel_rfl) (by simp) ?_
      refine AllReadyH.cons rfl (fun K hK => ?_) AllReadyH.nil
      go_simp
      refine Calls.mono (HFR.out _ (md_below hd2) A1 nR c1 HNR.out HST2.out) ?_
      rintro r u3 ⟨A2, c2, rfl, hb3, ho3⟩
      have hd3 := md_next hb3 hd2
      have HZA3 := Lib.hid (HZA2.out.next hb3)
      have HZR3 := Lib.hid (HZR2.out.next hb3)
      have HSZ3 := Lib.hid (Nat.le_trans HSZ2.out hb3.size)
      have HST3 := Lib.hid ho3.strs
      have HX3 := Lib.hid (HX2.out.next hb3)
      have HLX3 := Lib.hid HLX2.out
      refine hK.out _ _ hd3 (fun hHeld => ?_)
      clear hK
      (try simp only [Act.put, List.getElem_toArray, List.getElem_cons_zero, List.getElem_cons_succ, List.setIfInBounds_toArray, List.set_cons_zero, List.set_cons_succ])
      refine wpAnyH_ready (rs := [4]) (by kernel_rfl) (by simp) ?_
      refine AllReadyH.cons rfl (fun K hK => ?_) AllReadyH.nil
      go_simp
      refine Calls.mono (HAM.out _ A2 c2 HST3.out) ?_
      rintro r u4 ⟨b, rfl, hb4, -, -, ho4⟩
      have hd4 := md_next hb4 hd3
      have HZA4 := Lib.hid (HZA3.out.next hb4)
      have HZR4 := Lib.hid (HZR3.out.next hb4)
      have HSZ4 := Lib.hid (Nat.le_trans HSZ3.out hb4.size)
      have HST4 := Lib.hid ho4
      have HX4 := Lib.hid (HX3.out.next hb4)
      have HLX4 := Lib.hid HLX3.out
      refine hK.out _ _ hd4 (fun hHeld => ?_)
      clear hK
      (try simp only [Act.put, List.getElem_toArray, List.getElem_cons_zero, List.getElem_cons_succ, List.setIfInBounds_toArray, List.set_cons_zero, List.set_cons_succ])
      have e9 := HX4.out.cell 0
      have f9 := HX4.out.free 0
      simp only [List.getElem?_toArray, List.getElem?_cons_zero] at e9
      have HFIN := Lib.hid (dropIn_mk HZA4.out HZR4.out (md_below hd4) HX4.out HST4.out HLX4.out)
      have hdz := md_setc hd4 HLX4.out (.map (some b))
      refine wpAnyH_ready (rs := [6]) (by kernel_rfl) (by simp) ?_
      refine AllReadyH.cons rfl (fun K hK => ?_) AllReadyH.nil
      go_simp
      refine hK.out _ _ hdz (fun hHeld => ?_)
      clear hK hdz e9 f9
      (try simp only [Act.put, List.getElem_toArray, List.getElem_cons_zero, List.getElem_cons_succ, List.setIfInBounds_toArray, List.set_cons_zero, List.set_cons_succ])
      refine wpAnyH_done (by kernel_rfl) ?_ _
      go_wp2_with fail
      go_meet
      exact ⟨_, _, rfl, HFIN.out⟩
  case rest =>
    obtain ⟨bx, b, rfl, hin⟩ := hcut
    have HIN := Lib.hid hin
    have HBW := Lib.hid hin.bw
    have c0 : wc.cell? ⟨w.heap.size, 0, none⟩ = some (.slice F nf cf) := hin.za.cell 0
    have c1 : wc.cell? ⟨w.heap.size, 1, none⟩ = some (.slice G ng cg) := hin.za.cell 1
    clear hin hd HRO HFR HAM HZA HZR HZA0 HZR0
    go_wp2_with fail
    refine (HMO.out wc HBW.out).mono ?_
    rintro r w1 ⟨F1, f1, G1, g1, h, rfl, hb1, hof, hog⟩
    rw [HNF.out] at hof ⊢
    rw [HNG.out] at hog ⊢
    have HSZ := Lib.hid (show w.heap.size + 2 ≤ wc.heap.size from Nat.le_trans HIN.out.lx (Nat.le_of_lt HIN.out.sx))
    have HZ1 := Lib.hid (HIN.out.za.next hb1)
    have HR1 := Lib.hid (HIN.out.zr.next hb1)
    obtain ⟨w2, hw2⟩ : ∃ X, w1.setRow w.heap.size #[.slice F1 nf f1, .slice G1 ng g1] = X := ⟨_, rfl⟩
    have HZ2 := Lib.hid (show Whole w2 w.heap.size 25 #[.slice F1 nf f1, .slice G1 ng g1] by rw [← hw2]; exact HZ1.out.rowed)
    have hoth : ∀ q, q ≠ w.heap.size → w2.heap[q]? = w1.heap[q]? := fun q hq => by rw [← hw2]; simp [World.setRow, Array.getElem?_modify, show ¬ w.heap.size = q from fun e => hq e.symm]
    have HR2 := Lib.hid (show Whole w2 (w.heap.size + 1) 25 #[.slice none 0 0, .slice none 0 0] from (hoth _ (by omega)).trans HR1.out)
    have HF2 := Lib.hid (show OwnAt 4 50 FnC wc.heap.size h m.f (.slice F1 nf f1) w2 by rw [← hw2]; exact hof.row _ _ (.inl (by have := HSZ.out; omega)))
    have HG2 := Lib.hid (show OwnAt 4 54 GlC h w1.heap.size m.g (.slice G1 ng g1) w2 by rw [← hw2]; exact hog.row _ _ (.inl (by have := HSZ.out; have := hof.size; omega)))
    have HX2 := Lib.hid (show w2.cell? ⟨bx, 0, none⟩ = some (.map (some b)) ∧ SetAt w2 b nT T from ⟨(World.cell?_of_block (hoth bx (by have := HIN.out.lx; omega))).trans ((cellNext HIN.out.sx hb1 0).trans HIN.out.cx), HIN.out.st.same ((hoth b (fun e => by
      obtain ⟨es, clock, he, -⟩ := HIN.out.st
      have h2 := HIN.out.za
      rw [e] at he
      rw [show wc.heap[w.heap.size]? = _ from h2] at he
      cases he)).trans (hb1.block b HIN.out.st.lt))⟩)
    have HB2 := Lib.hid (show Below w.heap.size w w2 by rw [← hw2]; exact below_setr (bthen HBW.out hb1) (Nat.le_refl _))
    have HHI := Lib.hid (show wc.heap.size ≤ h ∧ h ≤ w1.heap.size from hof.size)
    have HS2 := Lib.hid (show w2.heap.size = w1.heap.size by rw [← hw2]; simp [World.setRow])
    have HLT := Lib.hid (show bx < wc.heap.size ∧ b < wc.heap.size from ⟨HIN.out.sx, HIN.out.st.lt⟩)
    have d0 : w2.cell? ⟨w.heap.size, 0, none⟩ = some (.slice F1 nf f1) := HZ2.out.cell 0
    have HDF := Lib.hid (deleteFn_any (fun f => !decide (f.s ∈ T)) 41 #[] #[.pointer (some ⟨bx, 0, none⟩)] m.f wc.heap.size h F1 nf f1 w2 HNF.out (by have := HN9.out; omega) HF2.out (fun _ _ => by kernel_rfl)
      (fun x hx cs U hc hU => dropFn_any T x cs bx b nT U hc (HKF.out x hx) ((World.cell?_of_block (hU.1.block bx HLT.out.1)).trans HX2.out.1) (HX2.out.2.same (hU.1.block b HLT.out.2))))
    clear hb1 hof hog hoth c0 c1
    go_wp2_with (refine store_whole (T := 25) rfl _ _ rfl w.heap.size #[.slice F1 nf f1, .slice G1 ng g1] #[.slice F nf cf, .slice G ng cg] rfl rfl HZ1.out size_Md rfl (by simp [Value.oneCell']) ?_; rw [hw2]; clear hw2)
    refine HDF.out.mono ?_
    rintro r w3 ⟨F3, f3, rfl, ho3, hof3⟩
    rw [bnot_filter] at hof3 ⊢
    obtain ⟨K1, hK1⟩ : ∃ l, m.f.filter (fun f => decide (f.s ∈ T)) = l := ⟨_, rfl⟩
    rw [hK1] at hof3 ⊢
    have HK1 := Lib.hid hK1
    obtain ⟨n3, hn3⟩ : ∃ q, K1.length = q := ⟨_, rfl⟩
    have HN3 := Lib.hid hn3
    rw [hn3] at hof3 ⊢
    have HB0 := Lib.hid (show w.heap.size < wc.heap.size ∧ w.heap.size + 1 < wc.heap.size by have := HSZ.out; omega)
    have HZ3 := Lib.hid (show Whole w3 w.heap.size 25 #[.slice F1 nf f1, .slice G1 ng g1] from (ho3.1.block _ HB0.out.1).trans HZ2.out)
    have HR3 := Lib.hid (show Whole w3 (w.heap.size + 1) 25 #[.slice none 0 0, .slice none 0 0] from (ho3.1.block _ HB0.out.2).trans HR2.out)
    have HG3 := Lib.hid (HG2.out.later (U := w3) ⟨ho3.1.size, fun q q1 q2 => ho3.2 q q1 (by rw [HS2.out]; exact q2)⟩)
    have HB3 := Lib.hid (show Below w.heap.size w w3 from HB2.out.trans (ho3.1.mono (Nat.le_of_lt HB0.out.1)))
    have HX3 := Lib.hid (show w3.cell? ⟨bx, 0, none⟩ = some (.map (some b)) ∧ SetAt w3 b nT T from ⟨(World.cell?_of_block (ho3.1.block bx HLT.out.1)).trans HX2.out.1, HX2.out.2.same (ho3.1.block b HLT.out.2)⟩)
    have e0 : w3.cell? ⟨w.heap.size, 0, none⟩ = some (.slice F1 nf f1) := HZ3.out.cell 0
    have e1 : w3.frozen? ⟨w.heap.size, 0, none⟩ = false := HZ3.out.free 0
    obtain ⟨w4, hw4⟩ : ∃ X, w3.setCell ⟨w.heap.size, 0, none⟩ (.slice F3 n3 f3) = X := ⟨_, rfl⟩
    have bk4 : ∀ q, q ≠ w.heap.size → w4.heap[q]? = w3.heap[q]? := fun q hq => by rw [← hw4]; exact Below.heap_setCell _ _ _ _ (by simpa using hq)
    have HZ4 := Lib.hid (show Whole w4 w.heap.size 25 #[.slice F3 n3 f3, .slice G1 ng g1] by rw [← hw4]; exact HZ3.out.put 0 _)
    have HR4 := Lib.hid (show Whole w4 (w.heap.size + 1) 25 #[.slice none 0 0, .slice none 0 0] from (bk4 _ (by omega)).trans HR3.out)
    have HF4 := Lib.hid (show OwnAt 4 50 FnC wc.heap.size h K1 (.slice F3 n3 f3) w4 by rw [← hw4]; exact hof3.set _ _ (.inl HB0.out.1))
    have HG4 := Lib.hid (show OwnAt 4 54 GlC h w1.heap.size m.g (.slice G1 ng g1) w4 by rw [← hw4]; exact HG3.out.set _ _ (.inl (Nat.lt_of_lt_of_le HB0.out.1 HHI.out.1)))
    have HB4 := Lib.hid (show Below w.heap.size w w4 by rw [← hw4]; exact below_setc HB3.out (Nat.le_refl _))
    have HX4 := Lib.hid (show w4.cell? ⟨bx, 0, none⟩ = some (.map (some b)) ∧ SetAt w4 b nT T from ⟨(World.cell?_of_block (bk4 bx (by have := HIN.out.lx; omega))).trans HX3.out.1, HX3.out.2.same (bk4 b (fun e => by
      obtain ⟨es, clock, he, -⟩ := HX3.out.2
      rw [e] at he
      rw [show w3.heap[w.heap.size]? = _ from HZ3.out] at he
      cases he))⟩)
    have g1' : w4.cell? ⟨w.heap.size, 1, none⟩ = some (.slice G1 ng g1) := HZ4.out.cell 1
    have HLH := Lib.hid (show bx < h ∧ b < h from ⟨Nat.lt_of_lt_of_le HLT.out.1 HHI.out.1, Nat.lt_of_lt_of_le HLT.out.2 HHI.out.1⟩)
    have HDG := Lib.hid (deleteGl_any (fun f => !decide (f.s ∈ T)) 44 #[] #[.pointer (some ⟨bx, 0, none⟩)] m.g h w1.heap.size G1 ng g1 w4 HNG.out (by have := HN9.out; omega) HG4.out (fun _ _ => by kernel_rfl)
      (fun x hx cs U hc hU => dropGl_any T x cs bx b nT U hc (HKG.out x hx) ((World.cell?_of_block (hU.1.block bx HLH.out.1)).trans HX4.out.1) (HX4.out.2.same (hU.1.block b HLH.out.2))))
    clear ho3 hof3 bk4 hn3 hK1 d0
    go_wp2_with fail
    clear hw4
    refine HDG.out.mono ?_
    rintro r w5 ⟨G5, g5, rfl, ho5, hog5⟩
    rw [bnot_filter] at hog5 ⊢
    obtain ⟨K2, hK2⟩ : ∃ l, m.g.filter (fun f => decide (f.s ∈ T)) = l := ⟨_, rfl⟩
    rw [hK2] at hog5 ⊢
    have HK2 := Lib.hid hK2
    obtain ⟨n5, hn5⟩ : ∃ q, K2.length = q := ⟨_, rfl⟩
    have HN5 := Lib.hid hn5
    rw [hn5] at hog5 ⊢
    have HBH := Lib.hid (show w.heap.size < h ∧ w.heap.size + 1 < h from ⟨Nat.lt_of_lt_of_le HB0.out.1 HHI.out.1, Nat.lt_of_lt_of_le HB0.out.2 HHI.out.1⟩)
    have HZ5 := Lib.hid (show Whole w5 w.heap.size 25 #[.slice F3 n3 f3, .slice G1 ng g1] from (ho5.1.block _ HBH.out.1).trans HZ4.out)
    have HR5 := Lib.hid (show Whole w5 (w.heap.size + 1) 25 #[.slice none 0 0, .slice none 0 0] from (ho5.1.block _ HBH.out.2).trans HR4.out)
    have HF5 := Lib.hid (HF4.out.later (U := w5) ⟨ho5.1.size, fun q q1 q2 => ho5.1.block q q2⟩)
    have HB5 := Lib.hid (show Below w.heap.size w w5 from HB4.out.trans (ho5.1.mono (Nat.le_of_lt HBH.out.1)))
    have i0 : w5.cell? ⟨w.heap.size, 1, none⟩ = some (.slice G1 ng g1) := HZ5.out.cell 1
    have i1 : w5.frozen? ⟨w.heap.size, 1, none⟩ = false := HZ5.out.free 1
    obtain ⟨w6, hw6⟩ : ∃ X, w5.setCell ⟨w.heap.size, 1, none⟩ (.slice G5 n5 g5) = X := ⟨_, rfl⟩
    have HZ6 := Lib.hid (show Whole w6 w.heap.size 25 #[.slice F3 n3 f3, .slice G5 n5 g5] by rw [← hw6]; exact HZ5.out.put 1 _)
    have HR6 := Lib.hid (show Whole w6 (w.heap.size + 1) 25 #[.slice none 0 0, .slice none 0 0] by rw [← hw6]; exact HR5.out.set _ _ (by simp))
    have HF6 := Lib.hid (show OwnAt 4 50 FnC wc.heap.size h K1 (.slice F3 n3 f3) w6 by rw [← hw6]; exact HF5.out.set _ _ (.inl HB0.out.1))
    have HG6 := Lib.hid (show OwnAt 4 54 GlC h w1.heap.size K2 (.slice G5 n5 g5) w6 by rw [← hw6]; exact hog5.set _ _ (.inl HBH.out.1))
    have HB6 := Lib.hid (show Below w.heap.size w w6 by rw [← hw6]; exact below_setc HB5.out (Nat.le_refl _))
    have j0 : w6.cell? ⟨w.heap.size, 0, none⟩ = some (.slice F3 n3 f3) := HZ6.out.cell 0
    have j1 : w6.cell? ⟨w.heap.size, 1, none⟩ = some (.slice G5 n5 g5) := HZ6.out.cell 1
    clear ho5 hog5 hn5 hK2 e0 e1 g1'
    go_wp2_with (refine store_whole (T := 25) rfl _ _ rfl (w.heap.size + 1) #[.slice F3 n3 f3, .slice G5 n5 g5] #[.slice none 0 0, .slice none 0 0] rfl rfl HR6.out size_Md rfl (by simp [Value.oneCell']) ?_)
    refine bodyPost_ret (results_cell_row Try.results18 _ _ (w.heap.size + 1) 25 #[.slice F3 n3 f3, .slice G5 n5 g5] (0, 0) _ rfl HR6.out.rowed Try.underlying25 rfl size_Md) rfl ?_
    rw [HDE.out, HK1.out, HK2.out]
    unfold GivenMd
    dsimp only
    rw [HN3.out, HN5.out]
    exact ⟨F3, f3, G5, g5, rfl, below_setr HB6.out (Nat.le_succ _), (HF6.out.row _ _ (.inl HB0.out.2)).rowAt FnC.lay, (HG6.out.row _ _ (.inl HBH.out.2)).rowAt GlC.lay⟩
end Go.Proofs.Ytoglmdadpchhoaa
