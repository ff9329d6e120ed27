/- Package reach: Deepest. -/
import Derived.Test.YtoglmdadpchhoaaRd
namespace Go.Proofs.Ytoglmdadpchhoaa
open Go.RowKit Go.Shelf

theorem fi_lookD {w0 : World} {b n : Nat} {l : List Fn} {D : DataW Value} (h2 : FiD w0 l D) {s : ByteArray} (hs : s.size < 9223372036854775808) :
    (∃ f A c, l.find? (fun f => f.s == s) = some f ∧ Blocks w0 (.slice A f.l.length c) f.l ∧ ∀ W : World, W.ownsMap Try.prog 9 fnR b n D → (Instr.lookup 94 (.map (some b)) (.string s) false).run Try.prog W = .ok (fnV f A c) W) ∨
    (l.find? (fun f => f.s == s) = none ∧ ∀ W : World, W.ownsMap Try.prog 9 fnR b n D → (Instr.lookup 94 (.map (some b)) (.string s) false).run Try.prog W = .ok fn0 W) := by
  have hz := fun W : World => Try.zeroValue50 W
  have hzd : fnR fn0 = some (.held fn0, []) := rfl
  rcases h2 s with ⟨f, A, c, e1, e2, e3⟩ | ⟨e1, e2⟩
  · refine .inl ⟨f, A, c, e1, e3, fun W h1 => ?_⟩
    obtain ⟨v, ps, r1, v1⟩ := h1.lookup skeyed Try.underlying94 (hz W) hzd (skey_of hs)
    rw [e2] at v1
    rw [fnR_inv v1] at r1
    exact r1
  · refine .inr ⟨e1, fun W h1 => ?_⟩
    obtain ⟨v, ps, r1, v1⟩ := h1.lookup skeyed Try.underlying94 (hz W) hzd (skey_of hs)
    rw [e2] at v1
    rw [fnR_inv v1] at r1
    exact r1
theorem at_ownN {W : World} {base hi : Nat} {v : Value} {L : List ByteArray} (h : OwnAt 1 9 StC base hi L v W) : OwnsN W base v L := by
  obtain ⟨ys, s, h1, h2, h3, h4, h5, h6⟩ := h
  have hl : ys.length = L.length := by have := h1.1; omega
  have e : ys = strRow L := by
    refine List.ext_getElem? fun j => ?_
    by_cases hj : j < L.length
    · obtain ⟨cs, c1, c2, c3⟩ := h6 j hj
      have e2 : cs = [.string L[j]] := c3 W ⟨Nat.le_refl _, fun _ _ _ => rfl⟩
      subst e2
      have := c2 0 (by simp)
      simp only [Nat.mul_one, Nat.add_zero] at this
      rw [this]
      simp [strRow, hj]
    · rw [List.getElem?_eq_none (by omega), List.getElem?_eq_none (by rw [strRow_length]; omega)]
  show W.ownsRow base 9 1 v L.length (strRow L)
  rw [← e]
  exact h1
/-- the functions that a name's first function calls, and that are there -/
def leadsD (m : Md) (x : ByteArray) : List ByteArray := (match m.f.find? (fun f : Fn => f.s == x) with
  | some f => callsL f
  | none => []).filter fun y => !(m.f.find? (fun f : Fn => f.s == y)).isNone
/-- functions, those that are called first -/
def deepestE (m : Md) : List ByteArray := (deepE (leadsD m) (m.f.map (·.s)).length (m.f.map (·.s)) ([], [])).2
theorem leadsD_in {m : Md} : ∀ x ∈ m.f.map (·.s), ∀ y ∈ leadsD m x, y ∈ m.f.map (·.s) := by
  intro x _ y hy
  have h := (List.mem_filter.1 hy).2
  cases hf : m.f.find? (fun f : Fn => f.s == y) with
  | none => rw [hf] at h; simp at h
  | some g =>
    have h2 := List.find?_some hf
    rw [List.mem_map]
    exact ⟨g, List.mem_of_find?_eq_some hf, (jba_beq _ _).1 h2⟩
theorem calls_key {f : Fn} (hok : FnOk f) : ∀ s ∈ callsL f, s.size < 9223372036854775808 := by
  intro s hs
  obtain ⟨l, hl, hsl⟩ := List.mem_flatten.1 hs
  obtain ⟨b, hb, rfl⟩ := List.mem_map.1 hl
  obtain ⟨i, hi, rfl⟩ := List.mem_map.1 hsl
  exact ((hok.2.2 b hb).2.2.2 i (List.mem_filter.1 hi).1).1
theorem leadsD_len {m : Md} (hk : MdK 1048576 m) (x : ByteArray) : (leadsD m x).length ≤ 1048576 := by
  unfold leadsD
  refine Nat.le_trans (List.length_filter_le _ _) ?_
  split
  · rename_i f hf
    have h1 := calls_len f
    have h2 := (hk.2.2 f (List.mem_of_find?_eq_some hf)).2.1
    omega
  · simp
set_option maxRecDepth 100000 in
set_option maxHeartbeats 8000000 in
theorem deepest1_any (m : Md) (x : ByteArray) (w0 : World) (bx b n : Nat) (W : World) (hok : MdOk m) (hk : MdK 1048576 m) (hx : x.size < 9223372036854775808) (hw : Below w0.heap.size w0 W) (hc : W.cell? ⟨bx, 0, none⟩ = some (.map (some b))) (hF : FiAt w0 W b n m.f) :
    Calls Try.prog 53 #[.string x, .pointer (some ⟨bx, 0, none⟩)] W (MadeN (leadsD m x) W) := by
  have HBX := Lib.hid (World.block_lt_of_cell? W _ hc)
  have HBL := Lib.hid hF.lt
  obtain ⟨D, hom, hfd⟩ := hF
  have HOM := Lib.hid hom
  have HFD := Lib.hid hfd
  have hd : W.drew.cell? ⟨bx, 0, none⟩ = some (.map (some b)) ∧ W.drew.ownsMap Try.prog 9 fnR b n D ∧ Below W.heap.size W W.drew := ⟨hc, map_same hom (fun _ => rfl), (Below.refl _ _).drew⟩
  rcases fi_lookD (b := b) (n := n) hfd hx with ⟨f, A, c, e1, hb, r1⟩ | ⟨e1, r1⟩
  · have hm := List.mem_of_find?_eq_some e1
    have HCA := Lib.hid (fun (U : World) (hU : Below W.heap.size W U) => calls_any f A f.l.length c U rfl (hok.1 f hm) (hk.2.2 f hm) (hb.next (bthen hw hU)))
    have HRK := Lib.hid (calls_key (hok.1 f hm))
    have HQ9 := Lib.hid (show (callsL f).length ≤ 1048576 by have h1 := calls_len f; have h2 := (hk.2.2 f hm).2.1; omega)
    have HLD := Lib.hid (show leadsD m x = (callsL f).filter fun y => !(m.f.find? (fun f : Fn => f.s == y)).isNone by unfold leadsD; rw [e1])
    unfold fnV at r1
    unfold MadeN at HCA
    obtain ⟨R, hR⟩ : ∃ R, callsL f = R := ⟨_, rfl⟩
    rw [hR] at HCA HRK HQ9 HLD
    obtain ⟨q, hq⟩ : ∃ q, R.length = q := ⟨_, rfl⟩
    have HNQ := Lib.hid hq
    rw [hq] at HQ9
    obtain ⟨fs, fb, fp, fl⟩ := f
    dsimp only at r1 HCA
    obtain ⟨fn, hfn⟩ : ∃ q, fl.length = q := ⟨_, rfl⟩
    rw [hfn] at r1 HCA
    have HLK := Lib.hid r1
    clear hok hk hx hw hc hom hfd hm e1 hb hR hq hfn r1
    go_enter Try.func53, Try.ntmps53
    go_upto_region 8 with fail
    refine wp_region_held_drew (S := fun W' => W'.cell? ⟨bx, 0, none⟩ = some (.map (some b)) ∧ W'.ownsMap Try.prog 9 fnR b n D ∧ Below W.heap.size W W') (by kernel_rfl) hd (fun hHeld => ?_)
    refine wpAnyH_take (i := 0) (v := ?_) rfl (by kernel_rfl) (by kernel_rfl) (by kernel_rfl) (fun _ _ _ h => h) (Or.inl ⟨by rfl, ?_⟩) hHeld ?_
    rotate_left
    · intro W' hSw; (try dsimp only at hSw); go_simp; try (with_reducible rfl)
    (try simp only [Act.put, List.getElem_toArray, List.getElem_cons_zero, List.setIfInBounds_toArray, List.set_cons_zero, List.set_cons_succ])
    refine wpAnyH_take (i := 1) (v := ?_) rfl (by kernel_rfl) (by kernel_rfl) (by kernel_rfl) (fun _ _ _ h => h) (Or.inl ⟨by rfl, ?_⟩) hHeld ?_
    rotate_left
    · intro W' hSw; (try dsimp only at hSw); go_simp; try (with_reducible rfl)
    (try simp only [Act.put, List.getElem_toArray, List.getElem_cons_zero, List.getElem_cons_succ, List.setIfInBounds_toArray, List.set_cons_zero, List.set_cons_succ])
    refine wpAnyH_take (i := 2) (v := ?_) rfl (by kernel_rfl) (by kernel_rfl) (by kernel_rfl) (fun _ _ _ h => h) (Or.inl ⟨by rfl, ?_⟩) hHeld ?_
    rotate_left
    · intro W' hSw; have hq := HLK.out W' hSw.2.1; (try dsimp only at hSw); go_simp; try (with_reducible rfl)
    (try simp only [Act.put, List.getElem_toArray, List.getElem_cons_zero, List.getElem_cons_succ, List.setIfInBounds_toArray, List.set_cons_zero, List.set_cons_succ])
    refine wpAnyH_take (i := 4) (v := ?_) rfl (by kernel_rfl) (by kernel_rfl) (by kernel_rfl) (fun _ _ _ h => h) (Or.inl ⟨by rfl, ?_⟩) hHeld ?_
    rotate_left
    · intro W' hSw; (try dsimp only at hSw); go_simp; try (with_reducible rfl)
    (try simp only [Act.put, List.getElem_toArray, List.getElem_cons_zero, List.getElem_cons_succ, List.setIfInBounds_toArray, List.set_cons_zero, List.set_cons_succ])
    refine wpAnyH_take (i := 5) (v := ?_) rfl (by kernel_rfl) (by kernel_rfl) (by kernel_rfl) (fun _ _ _ h => h) (Or.inl ⟨by rfl, ?_⟩) hHeld ?_
    rotate_left
    · intro W' hSw; (try dsimp only at hSw); go_simp; try (with_reducible rfl)
    (try simp only [Act.put, List.getElem_toArray, List.getElem_cons_zero, List.getElem_cons_succ, List.setIfInBounds_toArray, List.set_cons_zero, List.set_cons_succ])
    refine wpAnyH_ready (rs := [3]) (by kernel_rfl) (by simp) ?_
    refine AllReadyH.cons rfl (fun K hK => ?_) AllReadyH.nil
    go_simp
    refine Calls.mono (HCA.out _ hd.2.2) ?_
    rintro r u1 ⟨A1, c1, rfl, hb1, ho1⟩
    have hd1 : u1.cell? ⟨bx, 0, none⟩ = some (.map (some b)) ∧ u1.ownsMap Try.prog 9 fnR b n D ∧ Below W.heap.size W u1 := ⟨(cellNext (World.block_lt_of_cell? _ _ hd.1) hb1 0).trans hd.1, map_same hd.2.1 (fun hh => hb1.block b hh), bthen hd.2.2 hb1⟩
    rw [HNQ.out] at ho1 ⊢
    refine hK.out _ _ hd1 (fun hHeld => ?_)
    clear hK
    (try simp only [Act.put, List.getElem_toArray, List.getElem_cons_zero, List.getElem_cons_succ, List.setIfInBounds_toArray, List.set_cons_zero, List.set_cons_succ])
    have HDL := Lib.hid (deleteSt_any (fun y => (m.f.find? (fun f : Fn => f.s == y)).isNone) 56 #[.map (some b)] #[] R W.heap.size u1.heap.size A1 q c1 u1 HNQ.out (by have := HQ9.out; omega) (ownN_at (ho1.thin (show W.heap.size ≤ W.drew.heap.size from Nat.le_refl _)) hd1.2.2.size) (fun _ _ => by kernel_rfl) (fun x hx cs U _ hU => lackFn_any w0 m.f x b n U (HRK.out x hx) ⟨D, map_same HOM.out (fun hh => (hU.1.block b hh).trans (hd1.2.2.block b hh)), HFD.out⟩))
    refine wpAnyH_ready (rs := [6]) (by kernel_rfl) (by simp) ?_
    refine AllReadyH.cons rfl (fun K hK => ?_) AllReadyH.nil
    go_simp
    refine Calls.mono HDL.out ?_
    rintro r u2 ⟨A2, c2, rfl, hout2, ho2⟩
    have hd2 : u2.cell? ⟨bx, 0, none⟩ = some (.map (some b)) ∧ u2.ownsMap Try.prog 9 fnR b n D ∧ Below W.heap.size W u2 := ⟨(World.cell?_of_block (hout2.1.block bx HBX.out)).trans hd1.1, map_same hd1.2.1 (fun hh => hout2.1.block b HBL.out), hd1.2.2.trans hout2.1⟩
    refine hK.out _ _ hd2 (fun hHeld => ?_)
    clear hK
    (try simp only [Act.put, List.getElem_toArray, List.getElem_cons_zero, List.getElem_cons_succ, List.setIfInBounds_toArray, List.set_cons_zero, List.set_cons_succ])
    have HO2 := Lib.hid (at_ownN ho2)
    have HB2 := Lib.hid hd2.2.2
    obtain ⟨R2, hR2⟩ : ∃ l, R.filter (fun y => !(m.f.find? (fun f : Fn => f.s == y)).isNone) = l := ⟨_, rfl⟩
    have HR2 := Lib.hid hR2
    rw [hR2] at HO2 ⊢
    refine wpAnyH_ready (rs := [7]) (by kernel_rfl) (by simp) ?_
    refine AllReadyH.cons rfl (fun K hK => ?_) AllReadyH.nil
    go_simp
    refine hK.out _ _ hd2 (fun hHeld => ?_)
    clear hK hR2 ho2 hout2 hd1 hd2 ho1 hb1
    (try simp only [Act.put, List.getElem_toArray, List.getElem_cons_zero, List.getElem_cons_succ, List.setIfInBounds_toArray, List.set_cons_zero, List.set_cons_succ])
    refine wpAnyH_done (by kernel_rfl) ?_ _
    go_wp2_with fail
    go_ret
    rw [HLD.out, HR2.out]
    exact ⟨A2, c2, rfl, HB2.out, HO2.out⟩
  · have HCA := Lib.hid (fun (U : World) (_ : Below W.heap.size W U) => calls_any ⟨⟨#[]⟩, 0, 0, []⟩ none 0 0 U rfl ⟨by decide, by decide, fun b hb => absurd hb (by simp)⟩ ⟨by decide, by decide, fun b hb => absurd hb (by simp)⟩ (.inl ⟨rfl, .inl rfl⟩))
    have HLD := Lib.hid (show leadsD m x = ([] : List ByteArray).filter fun y => !(m.f.find? (fun f : Fn => f.s == y)).isNone by unfold leadsD; rw [e1])
    unfold fn0 at r1
    unfold MadeN at HCA
    obtain ⟨R, hR⟩ : ∃ R, callsL ⟨⟨#[]⟩, 0, 0, []⟩ = R := ⟨_, rfl⟩
    have hR0 : R = [] := hR.symm
    rw [hR] at HCA
    rw [← hR0] at HLD
    have HRK := Lib.hid (show ∀ s ∈ R, s.size < 9223372036854775808 from fun s hs => by rw [hR0] at hs; cases hs)
    have HQ9 := Lib.hid (show R.length ≤ 1048576 by rw [hR0]; decide)
    obtain ⟨q, hq⟩ : ∃ q, R.length = q := ⟨_, rfl⟩
    have HNQ := Lib.hid hq
    rw [hq] at HQ9
    have HLK := Lib.hid r1
    clear hok hk hx hw hc hom hfd e1 hR hR0 hq r1
    go_enter Try.func53, Try.ntmps53
    go_upto_region 8 with fail
    refine wp_region_held_drew (S := fun W' => W'.cell? ⟨bx, 0, none⟩ = some (.map (some b)) ∧ W'.ownsMap Try.prog 9 fnR b n D ∧ Below W.heap.size W W') (by kernel_rfl) hd (fun hHeld => ?_)
    refine wpAnyH_take (i := 0) (v := ?_) rfl (by kernel_rfl) (by kernel_rfl) (by kernel_rfl) (fun _ _ _ h => h) (Or.inl ⟨by rfl, ?_⟩) hHeld ?_
    rotate_left
    · intro W' hSw; (try dsimp only at hSw); go_simp; try (with_reducible rfl)
    (try simp only [Act.put, List.getElem_toArray, List.getElem_cons_zero, List.setIfInBounds_toArray, List.set_cons_zero, List.set_cons_succ])
    refine wpAnyH_take (i := 1) (v := ?_) rfl (by kernel_rfl) (by kernel_rfl) (by kernel_rfl) (fun _ _ _ h => h) (Or.inl ⟨by rfl, ?_⟩) hHeld ?_
    rotate_left
    · intro W' hSw; (try dsimp only at hSw); go_simp; try (with_reducible rfl)
    (try simp only [Act.put, List.getElem_toArray, List.getElem_cons_zero, List.getElem_cons_succ, List.setIfInBounds_toArray, List.set_cons_zero, List.set_cons_succ])
    refine wpAnyH_take (i := 2) (v := ?_) rfl (by kernel_rfl) (by kernel_rfl) (by kernel_rfl) (fun _ _ _ h => h) (Or.inl ⟨by rfl, ?_⟩) hHeld ?_
    rotate_left
    · intro W' hSw; have hq := HLK.out W' hSw.2.1; (try dsimp only at hSw); go_simp; try (with_reducible rfl)
    (try simp only [Act.put, List.getElem_toArray, List.getElem_cons_zero, List.getElem_cons_succ, List.setIfInBounds_toArray, List.set_cons_zero, List.set_cons_succ])
    refine wpAnyH_take (i := 4) (v := ?_) rfl (by kernel_rfl) (by kernel_rfl) (by kernel_rfl) (fun _ _ _ h => h) (Or.inl ⟨by rfl, ?_⟩) hHeld ?_
    rotate_left
    · intro W' hSw; (try dsimp only at hSw); go_simp; try (with_reducible rfl)
    (try simp only [Act.put, List.getElem_toArray, List.getElem_cons_zero, List.getElem_cons_succ, List.setIfInBounds_toArray, List.set_cons_zero, List.set_cons_succ])
    refine wpAnyH_take (i := 5) (v := ?_) rfl (by kernel_rfl) (by kernel_rfl) (by kernel_rfl) (fun _ _ _ h => h) (Or.inl ⟨by rfl, ?_⟩) hHeld ?_
    rotate_left
    · intro W' hSw; (try dsimp only at hSw); go_simp; try (with_reducible rfl)
    (try simp only [Act.put, List.getElem_toArray, List.getElem_cons_zero, List.getElem_cons_succ, List.setIfInBounds_toArray, List.set_cons_zero, List.set_cons_succ])
    refine wpAnyH_ready (rs := [3]) (by kernel_rfl) (by simp) ?_
    refine AllReadyH.cons rfl (fun K hK => ?_) AllReadyH.nil
    go_simp
    refine Calls.mono (HCA.out _ hd.2.2) ?_
    rintro r u1 ⟨A1, c1, rfl, hb1, ho1⟩
    have hd1 : u1.cell? ⟨bx, 0, none⟩ = some (.map (some b)) ∧ u1.ownsMap Try.prog 9 fnR b n D ∧ Below W.heap.size W u1 := ⟨(cellNext (World.block_lt_of_cell? _ _ hd.1) hb1 0).trans hd.1, map_same hd.2.1 (fun hh => hb1.block b hh), bthen hd.2.2 hb1⟩
    rw [HNQ.out] at ho1 ⊢
    refine hK.out _ _ hd1 (fun hHeld => ?_)
    clear hK
    (try simp only [Act.put, List.getElem_toArray, List.getElem_cons_zero, List.getElem_cons_succ, List.setIfInBounds_toArray, List.set_cons_zero, List.set_cons_succ])
    have HDL := Lib.hid (deleteSt_any (fun y => (m.f.find? (fun f : Fn => f.s == y)).isNone) 56 #[.map (some b)] #[] R W.heap.size u1.heap.size A1 q c1 u1 HNQ.out (by have := HQ9.out; omega) (ownN_at (ho1.thin (show W.heap.size ≤ W.drew.heap.size from Nat.le_refl _)) hd1.2.2.size) (fun _ _ => by kernel_rfl) (fun x hx cs U _ hU => lackFn_any w0 m.f x b n U (HRK.out x hx) ⟨D, map_same HOM.out (fun hh => (hU.1.block b hh).trans (hd1.2.2.block b hh)), HFD.out⟩))
    refine wpAnyH_ready (rs := [6]) (by kernel_rfl) (by simp) ?_
    refine AllReadyH.cons rfl (fun K hK => ?_) AllReadyH.nil
    go_simp
    refine Calls.mono HDL.out ?_
    rintro r u2 ⟨A2, c2, rfl, hout2, ho2⟩
    have hd2 : u2.cell? ⟨bx, 0, none⟩ = some (.map (some b)) ∧ u2.ownsMap Try.prog 9 fnR b n D ∧ Below W.heap.size W u2 := ⟨(World.cell?_of_block (hout2.1.block bx HBX.out)).trans hd1.1, map_same hd1.2.1 (fun hh => hout2.1.block b HBL.out), hd1.2.2.trans hout2.1⟩
    refine hK.out _ _ hd2 (fun hHeld => ?_)
    clear hK
    (try simp only [Act.put, List.getElem_toArray, List.getElem_cons_zero, List.getElem_cons_succ, List.setIfInBounds_toArray, List.set_cons_zero, List.set_cons_succ])
    have HO2 := Lib.hid (at_ownN ho2)
    have HB2 := Lib.hid hd2.2.2
    obtain ⟨R2, hR2⟩ : ∃ l, R.filter (fun y => !(m.f.find? (fun f : Fn => f.s == y)).isNone) = l := ⟨_, rfl⟩
    have HR2 := Lib.hid hR2
    rw [hR2] at HO2 ⊢
    refine wpAnyH_ready (rs := [7]) (by kernel_rfl) (by simp) ?_
    refine AllReadyH.cons rfl (fun K hK => ?_) AllReadyH.nil
    go_simp
    refine hK.out _ _ hd2 (fun hHeld => ?_)
    clear hK hR2 ho2 hout2 hd1 hd2 ho1 hb1
    (try simp only [Act.put, List.getElem_toArray, List.getElem_cons_zero, List.getElem_cons_succ, List.setIfInBounds_toArray, List.set_cons_zero, List.set_cons_succ])
    refine wpAnyH_done (by kernel_rfl) ?_ _
    go_wp2_with fail
    go_ret
    rw [HLD.out, HR2.out]
    exact ⟨A2, c2, rfl, HB2.out, HO2.out⟩
set_option maxRecDepth 100000 in
set_option maxHeartbeats 16000000 in
theorem deepest_any (m : Md) (F G : Option Addr) (nf cf ng cg : Nat) (w : World) (hok : MdOk m) (hk : MdK 1048576 m) (hnf : m.f.length = nf) (hS : MdAt w (.slice F nf cf) (.slice G ng cg) m) :
    Calls Try.prog 27 #[.agg #[.slice F nf cf, .slice G ng cg]] w (MadeN (deepestE m) w) := by
  have HFI := Lib.hid (fun (U : World) (hU : Below w.heap.size w U) => firstsOf_any m F G nf cf ng cg U hok hnf (by have := hk.1; omega) ⟨hS.1.next hU, hS.2.next hU⟩)
  have HFU := Lib.hid (fun (U : World) (hU : Below w.heap.size w U) => functions_any m F G nf cf ng cg U hnf (by have := hk.1; omega) ⟨hS.1.next hU, hS.2.next hU⟩)
  have hkey : ∀ x ∈ m.f.map (·.s), x.size < 9223372036854775808 := fun x hx => by
    obtain ⟨f, hf, rfl⟩ := List.mem_map.1 hx
    exact (hok.1 f hf).1
  have hlen : (m.f.map (·.s)).length ≤ 1048576 := by rw [List.length_map]; have := hk.1; omega
  have HDF := Lib.hid (fun (U : World) (bx b n : Nat) (w1 : World) (A : Option Addr) (nr cr : Nat) (hr : (m.f.map (·.s)).length = nr) (hR : Strs U (.slice A nr cr) (m.f.map (·.s))) (hw1 : Below w1.heap.size w1 U) (hc : U.cell? ⟨bx, 0, none⟩ = some (.map (some b))) (hF : FiAt w1 U b n m.f) =>
    deepFirst_any (m.f.map (·.s)) A nr cr U (m.f.map (·.s)) (leadsD m) 53 #[] #[.pointer (some ⟨bx, 0, none⟩)] hr (by omega) hR (fun x hx => hx) leadsD_in hkey (by omega) (fun x _ => by have := leadsD_len hk x; omega) (fun _ _ => by kernel_rfl)
      (fun x hx V hV _ => deepest1_any m x w1 bx b n V hok hk (hkey x hx) (hw1.trans (hV.mono hw1.size)) ((cellNext (World.block_lt_of_cell? U _ hc) hV _).trans hc) (hF.same (hV.block _ hF.lt))))
  have HNL := Lib.hid (show (m.f.map (·.s)).length = nf by rw [List.length_map]; exact hnf)
  have HDE := Lib.hid (show deepestE m = (deepE (leadsD m) (m.f.map (·.s)).length (m.f.map (·.s)) ([], [])).2 from rfl)
  have hcb := heap_alloc_new w (.cells #[.slice F nf cf, .slice G ng cg] 25)
  have hb0 := balloc (Below.refl _ w) (.cells #[.slice F nf cf, .slice G ng cg] 25)
  obtain ⟨W0, hW0⟩ : ∃ U, w.alloc (.cells #[.slice F nf cf, .slice G ng cg] 25) = U := ⟨_, rfl⟩
  rw [hW0] at hcb hb0
  have HCB := Lib.hid (show Whole W0 w.heap.size 25 #[.slice F nf cf, .slice G ng cg] from hcb)
  have HB0 := Lib.hid hb0
  have c0 : W0.cell? ⟨w.heap.size, 0, none⟩ = some (.slice F nf cf) := HCB.out.cell 0
  have c1 : W0.cell? ⟨w.heap.size, 1, none⟩ = some (.slice G ng cg) := HCB.out.cell 1
  obtain ⟨N, hN⟩ : ∃ N, m.f.map (·.s) = N := ⟨_, rfl⟩
  unfold MadeN at HFU
  rw [hN] at HFU HDF HNL HDE
  rw [HNL.out] at HFU
  clear hok hk hnf hS hcb hb0 hkey hlen hN
  go_enter Try.func27, Try.ntmps27
  go_wp2_with fail
  refine (HFI.out W0 HB0.out).mono ?_
  rintro r w1 ⟨b, rfl, hb1, hf1, hbb⟩
  obtain ⟨W1, hW1⟩ : ∃ X, w1.alloc (.cells #[.map (some b)] 94) = X := ⟨_, rfl⟩
  have hn1 : Whole W1 w1.heap.size 94 #[.map (some b)] := by rw [← hW1]; exact heap_alloc_new w1 _
  have hb1a : Below w1.heap.size w1 W1 := by rw [← hW1]; exact balloc (Below.refl _ _) _
  have HN1 := Lib.hid hn1
  have HF1 := Lib.hid (hf1.same (hb1a.block _ hf1.lt))
  have HBA := Lib.hid (bthen hb1 hb1a)
  have HB1 := Lib.hid (bthen (bthen HB0.out hb1) hb1a)
  have HC1 := Lib.hid ((HCB.out.next hb1).next hb1a)
  have d0 : W1.cell? ⟨w.heap.size, 0, none⟩ = some (.slice F nf cf) := HC1.out.cell 0
  have d1 : W1.cell? ⟨w.heap.size, 1, none⟩ = some (.slice G ng cg) := HC1.out.cell 1
  clear c0 c1 hn1 hb1 hb1a hf1 hbb hW0
  go_wp2_with fail
  clear hW1
  refine (HFU.out W1 HB1.out).mono ?_
  rintro r w2 ⟨A2, z2, rfl, hb2, ho2⟩
  have HD := Lib.hid (HDF.out w2 w1.heap.size b nf W0 A2 nf z2 HNL.out ho2.strs (bthen HBA.out hb2) ((HN1.out.next hb2).cell 0) (HF1.out.same (hb2.block _ HF1.out.lt)))
  have HB2 := Lib.hid (bthen HB1.out hb2)
  unfold MadeN at HD
  rw [← HDE.out] at HD
  clear hb2 ho2 d0 d1
  go_wp2_with fail
  refine HD.out.mono ?_
  rintro r w3 ⟨A3, z3, rfl, hb3, ho3⟩
  have HO3 := Lib.hid (ho3.thin HB2.out.size)
  have HB3 := Lib.hid (bthen HB2.out hb3)
  clear hb3 ho3
  go_wp2_with fail
  go_ret
  exact ⟨A3, z3, rfl, HB3.out, HO3.out⟩
end Go.Proofs.Ytoglmdadpchhoaa
