/- ReachChain: the walk. -/
import Derived.Test.YtoglmdadpchhoaaRj
namespace Go.Proofs.Ytoglmdadpchhoaa
open Go.RowKit Go.Shelf

theorem one_str (U : World) (x : ByteArray) : Strs (U.alloc (.cells #[.string x] 9)) (.slice (some ⟨U.heap.size, 0, none⟩) 1 1) [x] := by
  have h := heap_alloc_new U (.cells #[.string x] 9)
  refine .inr ⟨by simp, U.heap.size, 0, 1, rfl, (Array.getElem?_eq_some_iff.1 h).1, fun i hi => ?_⟩
  obtain rfl : i = 0 := by simpa using hi
  exact Lib.cell_of_heap h 0
theorem from_key {m : Md} (hok : MdOk m) (l : List ByteArray) : ∀ x ∈ fromE m l, x.size < 9223372036854775808 := fun x hx => by
  have h := ((from_mem m l x).1 hx).1
  unfold namesM at h
  rcases List.mem_append.1 h with h | h
  · obtain ⟨f, hf, rfl⟩ := List.mem_map.1 h
    exact (hok.1 f hf).1
  · obtain ⟨g, hg, rfl⟩ := List.mem_map.1 h
    exact hok.2.1 g hg
theorem MdK.mono {k n : Nat} {m : Md} (h : MdK k m) (hn : k ≤ n) : MdK n m := ⟨Nat.le_trans h.1 hn, Nat.le_trans h.2.1 hn, fun f hf => (h.2.2 f hf).mono hn⟩
theorem any_mem {l : List ByteArray} {x : ByteArray} (h : x ∈ l) : (l.any fun y => y == x) = true := List.any_eq_true.2 ⟨x, h, jba_refl x⟩
theorem from_one (m : Md) (F G : Option Addr) (nf cf ng cg : Nat) (w U : World) (x : ByteArray) (hok : MdOk m) (hk : MdK 1048576 m) (hx : x.size < 9223372036854775808) (hnf : m.f.length = nf) (hng : m.g.length = ng) (hS : MdAt w (.slice F nf cf) (.slice G ng cg) m) (hU : Below w.heap.size w U) :
    Calls Try.prog 30 #[.agg #[.slice F nf cf, .slice G ng cg], .slice (some ⟨U.heap.size, 0, none⟩) 1 1] (U.alloc (.cells #[.string x] 9)) fun e w' => ∃ A c, e = .returned (.slice A (fromE m [x]).length c) ∧ Below U.heap.size U w' ∧ Strs w' (.slice A (fromE m [x]).length c) (fromE m [x]) :=
  (from_any m F G nf cf ng cg [x] (some ⟨U.heap.size, 0, none⟩) 1 1 (U.alloc (.cells #[.string x] 9)) hok hk hok.2.1 hnf hng ((hS.next hU).next (balloc (Below.refl _ U) _)) rfl (by decide) (fun s hs => by obtain rfl : s = x := (by simpa using hs); exact hx) (one_str U x)).mono
    fun r w' ⟨A, c, e, hb, ho⟩ => ⟨A, c, e, bthen (balloc (Below.refl _ U) _) hb, ho.strs⟩
theorem ch_next {w W W' : World} {B B2 o2 : Nat} {c0 c1 c2 : Value} (hb : Below W.heap.size W W') (h : W.cell? ⟨B, 0, none⟩ = some c0 ∧ W.cell? ⟨B, 1, none⟩ = some c1 ∧ W.cell? ⟨B2, o2, none⟩ = some c2 ∧ Below w.heap.size w W) :
    W'.cell? ⟨B, 0, none⟩ = some c0 ∧ W'.cell? ⟨B, 1, none⟩ = some c1 ∧ W'.cell? ⟨B2, o2, none⟩ = some c2 ∧ Below w.heap.size w W' := by
  obtain ⟨h0, h1, h2, h5⟩ := h
  have hB := World.block_lt_of_cell? W _ h0
  have hB2 := World.block_lt_of_cell? W _ h2
  exact ⟨(cellNext hB hb _).trans h0, (cellNext hB hb _).trans h1, (cellNext hB2 hb _).trans h2, bthen h5 hb⟩
theorem ch_below {w W : World} {B B2 o2 : Nat} {c0 c1 c2 : Value} (h : W.cell? ⟨B, 0, none⟩ = some c0 ∧ W.cell? ⟨B, 1, none⟩ = some c1 ∧ W.cell? ⟨B2, o2, none⟩ = some c2 ∧ Below w.heap.size w W) : Below w.heap.size w W := h.2.2.2
set_option maxRecDepth 100000 in
set_option maxHeartbeats 8000000 in
theorem chain_all (m : Md) (F G : Option Addr) (cf cg : Nat) (root : ByteArray) (i : Int) (w : World) (hok : MdOk m) (hk : MdK 1048576 m) (hr : root.size < 9223372036854775808) (hS : MdAt w (.slice F m.f.length cf) (.slice G m.g.length cg) m) :
    Calls Try.prog 10 #[.agg #[.slice F m.f.length cf, .slice G m.g.length cg], .string root, .int .i64 i] w fun e w' => e = .returned (.bool true) ∧ Below w.heap.size w w' := by
  obtain ⟨nf, hnf⟩ : ∃ q, m.f.length = q := ⟨_, rfl⟩
  obtain ⟨ng, hng⟩ : ∃ q, m.g.length = q := ⟨_, rfl⟩
  rw [hnf, hng] at hS ⊢
  have h20 : nf + ng ≤ 1048576 := by have := hk.1; omega
  have HFR := Lib.hid (fun (U : World) (hU : Below w.heap.size w U) (x : ByteArray) (hx : x.size < 9223372036854775808) => from_one m F G nf cf ng cg w U x hok hk hx hnf hng hS hU)
  have HFE := Lib.hid (fun (U : World) => few_any m F G nf cf ng cg U hnf hng h20)
  obtain ⟨A, hA⟩ : ∃ A, fromE m [root] = A := ⟨_, rfl⟩
  have HAK := Lib.hid (show ∀ x ∈ A, x.size < 9223372036854775808 by rw [← hA]; exact from_key hok _)
  have HCH := Lib.hid (show ∀ x ∈ A, ∀ y ∈ fromE m [x], y ∈ A by rw [← hA]; exact fun x hx y hy => from_chain m root hx y hy)
  have HOW := Lib.hid (show ∀ x ∈ A, x ∈ fromE m [x] by rw [← hA]; exact from_own m _)
  have HL := Lib.hid (show ∀ l, (fromE m l).length ≤ 1048576 from fun l => by have := from_few m l; omega)
  have HR := Lib.hid (HFR.out)
  have hFA := fun (U : World) (hU : Below w.heap.size w U) => HFR.out U hU root hr
  rw [hA] at hFA
  have HFA := Lib.hid hFA
  obtain ⟨nA, hnA⟩ : ∃ q, A.length = q := ⟨_, rfl⟩
  rw [hnA] at HFA
  have hA20 : nA ≤ 1048576 := by rw [← hnA, ← hA]; exact HL.out _
  have HNA := Lib.hid (show A.length ≤ nA ∧ nA ≤ A.length by omega)
  have hcb := heap_alloc_new w (.cells #[.slice F nf cf, .slice G ng cg] 25)
  have hb0 := balloc (Below.refl _ w) (.cells #[.slice F nf cf, .slice G ng cg] 25)
  obtain ⟨W0, hW0⟩ : ∃ U, w.alloc (.cells #[.slice F nf cf, .slice G ng cg] 25) = U := ⟨_, rfl⟩
  rw [hW0] at hcb hb0
  have HCB := Lib.hid (show Whole W0 w.heap.size 25 #[.slice F nf cf, .slice G ng cg] from hcb)
  have HB0 := Lib.hid hb0
  have n1 : (nA : Int) ≤ 1048576 := by omega
  clear hok hk hr hS hnf hng h20 hA hFA hnA hA20 hcb hb0 HR
  go_enter Try.func10, Try.ntmps10
  go_wp2_with fail
  refine (rshown11_any W0).mono ?_
  rintro r w1 ⟨rfl, hb1⟩
  have HC1 := Lib.hid (HCB.out.next hb1)
  have HB1 := Lib.hid (bthen HB0.out hb1)
  have c0 : w1.cell? ⟨w.heap.size, 0, none⟩ = some (.slice F nf cf) := HC1.out.cell 0
  have c1 : w1.cell? ⟨w.heap.size, 1, none⟩ = some (.slice G ng cg) := HC1.out.cell 1
  clear hb1
  go_wp2_with fail
  refine (HFE.out w1).mono ?_
  rintro r w2 ⟨rfl, hb2⟩
  have HC2 := Lib.hid (HC1.out.next hb2)
  have HB2 := Lib.hid (bthen HB1.out hb2)
  have d0 : w2.cell? ⟨w.heap.size, 0, none⟩ = some (.slice F nf cf) := HC2.out.cell 0
  have d1 : w2.cell? ⟨w.heap.size, 1, none⟩ = some (.slice G ng cg) := HC2.out.cell 1
  clear hb2 c0 c1
  go_wp2_with fail
  refine (HFA.out w2 HB2.out).mono ?_
  rintro r w3 ⟨A3, c3, rfl, hb3, hs3⟩
  have HC3 := Lib.hid (HC2.out.next hb3)
  have HB3 := Lib.hid (bthen HB2.out hb3)
  have HS3 := Lib.hid hs3
  clear hb3 hs3 d0 d1
  obtain ⟨V, hV⟩ : ∃ V, fewE m = V := ⟨_, rfl⟩
  rw [hV]
  clear hV
  cases V with
  | false =>
    go_wp2_with fail
    go_ret
    exact ⟨rfl, HB3.out⟩
  | true =>
    by_cases hi0 : i < 0
    · go_wp2_with fail
      go_ret
      exact ⟨rfl, HB3.out⟩
    by_cases hiA : (nA : Int) ≤ i
    · go_wp2_with fail
      go_ret
      exact ⟨rfl, HB3.out⟩
    obtain ⟨j, rfl⟩ : ∃ j : Nat, i = (j : Int) := ⟨i.toNat, by omega⟩
    have hj : j < A.length := by have := HNA.out; omega
    obtain ⟨b1, off, hA1, hbl, p0⟩ := RowOf.at_ HS3.out hj
    subst hA1
    have hmem := List.getElem_mem hj
    obtain ⟨x, hx⟩ : ∃ x, A[j] = x := ⟨_, rfl⟩
    rw [hx] at p0 hmem
    have HXK := Lib.hid (HAK.out _ hmem)
    have HXC := Lib.hid (HCH.out _ hmem)
    have HXO := Lib.hid (HOW.out _ hmem)
    have p0' : w3.cell? ⟨b1, off + j, none⟩ = some (.string x) := by simpa using p0
    have d0 : w3.cell? ⟨w.heap.size, 0, none⟩ = some (.slice F nf cf) := HC3.out.cell 0
    have d1 : w3.cell? ⟨w.heap.size, 1, none⟩ = some (.slice G ng cg) := HC3.out.cell 1
    have q0 : (0 : Int) ≤ (j : Int) := Int.natCast_nonneg _
    have q1 : (j : Int) < (nA : Int) := by omega
    clear p0 hmem hx hj hbl HCH HOW HAK
    go_upto_region 6 with fail
    have hd : w3.drew.cell? ⟨w.heap.size, 0, none⟩ = some (.slice F nf cf) ∧ w3.drew.cell? ⟨w.heap.size, 1, none⟩ = some (.slice G ng cg) ∧ w3.drew.cell? ⟨b1, off + j, none⟩ = some (.string x) ∧ Below w3.heap.size w3 w3.drew := ⟨d0, d1, p0', (Below.refl _ _).drew⟩
    refine wp_region_held_drew (S := fun U => U.cell? ⟨w.heap.size, 0, none⟩ = some (.slice F nf cf) ∧ U.cell? ⟨w.heap.size, 1, none⟩ = some (.slice G ng cg) ∧ U.cell? ⟨b1, off + j, none⟩ = some (.string x) ∧ Below w3.heap.size w3 U) (by kernel_rfl) hd (fun hHeld => ?_)
    refine wpAnyH_take (i := 0) (v := ?_) rfl (by kernel_rfl) (by kernel_rfl) (by kernel_rfl) (fun _ _ _ h => h) (Or.inl ⟨by rfl, ?_⟩) hHeld ?_
    rotate_left
    · intro W' hSw; (try dsimp only at hSw); go_simp; try (with_reducible rfl)
    (try simp only [Act.put, List.getElem_toArray, List.getElem_cons_zero, List.setIfInBounds_toArray, List.set_cons_zero, List.set_cons_succ])
    refine wpAnyH_take (i := 1) (v := ?_) rfl (by kernel_rfl) (by kernel_rfl) (by kernel_rfl) (fun _ _ _ h => h) (Or.inl ⟨by rfl, ?_⟩) hHeld ?_
    rotate_left
    · intro W' hSw; (try dsimp only at hSw); go_simp; try (with_reducible rfl)
    (try simp only [Act.put, List.getElem_toArray, List.getElem_cons_zero, List.getElem_cons_succ, List.setIfInBounds_toArray, List.set_cons_zero, List.set_cons_succ])
    refine wpAnyH_take (i := 2) (v := ?_) rfl (by kernel_rfl) (by kernel_rfl) (by kernel_rfl) (fun _ _ _ h => h) (Or.inl ⟨by rfl, ?_⟩) hHeld ?_
    rotate_left
    · intro W' hSw; (try dsimp only at hSw); go_simp; try (with_reducible rfl)
    (try simp only [Act.put, List.getElem_toArray, List.getElem_cons_zero, List.getElem_cons_succ, List.setIfInBounds_toArray, List.set_cons_zero, List.set_cons_succ])
    refine wpAnyH_take (i := 3) (v := ?_) rfl (by kernel_rfl) (by kernel_rfl) (by kernel_rfl) (fun _ _ _ h => h) (Or.inl ⟨by rfl, ?_⟩) hHeld ?_
    rotate_left
    · intro W' hSw; (try dsimp only at hSw); go_simp; try (with_reducible rfl)
    (try simp only [Act.put, List.getElem_toArray, List.getElem_cons_zero, List.getElem_cons_succ, List.setIfInBounds_toArray, List.set_cons_zero, List.set_cons_succ])
    refine wpAnyH_take (i := 4) (v := ?_) rfl (by kernel_rfl) (by kernel_rfl) (by kernel_rfl) (fun _ _ _ h => h) (Or.inl ⟨by rfl, ?_⟩) hHeld ?_
    rotate_left
    · intro W' hSw; (try dsimp only at hSw); go_simp; try (with_reducible rfl)
    (try simp only [Act.put, List.getElem_toArray, List.getElem_cons_zero, List.getElem_cons_succ, List.setIfInBounds_toArray, List.set_cons_zero, List.set_cons_succ])
    have hd1 := ch_next (balloc (Below.refl _ w3.drew) (.cells #[.string x] 9)) hd
    refine wpAnyH_ready (rs := [5]) (by kernel_rfl) (by simp) ?_
    refine AllReadyH.cons rfl (fun K hK => ?_) AllReadyH.nil
    go_simp
    refine hK.out _ _ hd1 (fun hHeld => ?_)
    clear hK
    (try simp only [Act.put, List.getElem_toArray, List.getElem_cons_zero, List.getElem_cons_succ, List.setIfInBounds_toArray, List.set_cons_zero, List.set_cons_succ])
    refine wpAnyH_ready (rs := [6]) (by kernel_rfl) (by simp) ?_
    refine AllReadyH.cons rfl (fun K hK => ?_) AllReadyH.nil
    go_simp
    refine Calls.mono (HFR.out w3.drew (bthen HB3.out (ch_below hd)) x HXK.out) ?_
    rintro r w4 ⟨A4, c4, rfl, hb4, hs4⟩
    have hd2 := ch_next hb4 hd
    refine hK.out _ _ hd2 (fun hHeld => ?_)
    clear hK
    (try simp only [Act.put, List.getElem_toArray, List.getElem_cons_zero, List.getElem_cons_succ, List.setIfInBounds_toArray, List.set_cons_zero, List.set_cons_succ])
    refine wpAnyH_ready (rs := [7]) (by kernel_rfl) (by simp) ?_
    refine AllReadyH.cons rfl (fun K hK => ?_) AllReadyH.nil
    go_simp
    refine hK.out _ _ hd2 (fun hHeld => ?_)
    clear hK
    (try simp only [Act.put, List.getElem_toArray, List.getElem_cons_zero, List.getElem_cons_succ, List.setIfInBounds_toArray, List.set_cons_zero, List.set_cons_succ])
    refine wpAnyH_done (by kernel_rfl) ?_ _
    have HB4 := Lib.hid (bthen HB3.out hd2.2.2.2)
    obtain ⟨B, hB⟩ : ∃ B, fromE m [x] = B := ⟨_, rfl⟩
    have hBL := HL.out [x]
    rw [hB] at HXC HXO hs4 hBL ⊢
    obtain ⟨nB, hnB⟩ : ∃ q, B.length = q := ⟨_, rfl⟩
    have hB1 : 1 ≤ nB := by rw [← hnB]; exact List.length_pos_of_mem HXO.out
    rw [hnB] at hs4 hBL ⊢
    have HNB := Lib.hid (show B.length ≤ nB ∧ nB ≤ B.length by omega)
    have HS4 := Lib.hid hs4
    have HSA := Lib.hid (HS3.out.next hd2.2.2.2)
    have HSX := Lib.hid (HL.out [root])
    have n2 : (nB : Int) ≤ 1048576 := by omega
    have n3 : (1 : Int) ≤ (nB : Int) := by omega
    have HA9 := Lib.hid (show nA ≤ 9223372036854775807 by omega)
    clear hd hd1 hd2 hs4 hb4 hB hBL hnB hB1 HS3 HC3 HFR HFE HFA HL HCB HB0 hW0 HC1 HC2 HB1 HB2 p0' d0 d1
    go_wp2_with fail
    go_loopw [11] (fun kv wi => ∃ k : Nat, k ≤ nB ∧ kv = .int .i64 k ∧ w4 = wi) (fun kv _ => nB - (intOf kv).toNat)
    case atStart => exact ⟨0, Nat.zero_le _, rfl, rfl⟩
    case round =>
      obtain ⟨k, hk, rfl, rfl⟩ := hrel
      by_cases hlk : k < nB
      · have hkm : k < B.length := by have := HNB.out; omega
        obtain ⟨b2, off2, hA2, hbl2, p2⟩ := RowOf.at_ HS4.out hkm
        subst hA2
        have hmem := HXC.out _ (List.getElem_mem hkm)
        obtain ⟨y, hy⟩ : ∃ y, B[k] = y := ⟨_, rfl⟩
        rw [hy] at p2 hmem
        have p2' : w4.cell? ⟨b2, off2 + k, none⟩ = some (.string y) := by simpa using p2
        have HME := Lib.hid (any_mem hmem)
        have HLK := Lib.hid hlk
        have r0 : (0 : Int) ≤ (k : Int) := Int.natCast_nonneg _
        have r1 : (k : Int) < (nB : Int) := by omega
        clear p2 hmem hy hkm hlk hbl2 hk
        go_wp2_with fail
        refine (refHas_any A y _ nA c3 w4 (by have := HNA.out; omega) HA9.out HSA.out).mono ?_
        rintro r w5 ⟨rfl, rfl⟩
        rw [HME.out]
        go_wp2_with fail
        go_roundw
        case rel => exact ⟨k + 1, HLK.out, by go_num, trivial⟩
        case measure => have := HLK.out; simp [intOf]; omega
      · have hd : decide ((k : Int) < (nB : Int)) = false := by simp; omega
        have e1 : decide ((1 : Int) ≤ (nB : Int)) = true := by simp; omega
        go_wp2_with fail
        go_ret
        exact ⟨rfl, HB4.out⟩
end Go.Proofs.Ytoglmdadpchhoaa
