/- The reference's Map. -/
import Derived.Test.YtclbkdnihhmglaaDoorZL
namespace Go.Proofs.YtclbkdnihhmglaaDoor
open Go.RowKit Go.Shelf

attribute [local go_sem] Oper.semAt_some

theorem one_page (W : World) (x : M.Pg) : Pages (W.alloc (.cells #[.int .u64 x.a, .int .i64 x.p, .string x.d] 43)) (.slice (some ⟨W.heap.size, 0, none⟩) 1 1) [x] := by
  obtain ⟨h0, h1, h2⟩ := page_new W x.a x.p x.d 43
  refine .inr ⟨by simp, W.heap.size, 0, 1, rfl, by simp, fun i hi => ?_⟩
  obtain rfl : i = 0 := by simpa using hi
  exact ⟨h0, h1, h2⟩
theorem OwnsP.alloc {W : World} {base : Nat} {v : Value} {m : List M.Pg} (h : OwnsP W base v m) (o : Obj) : OwnsP (W.alloc o) base v m := by
  refine ownsP_kept (row := none) h (grownBy_alloc W o) ?_
  cases hv : v.ownBlock
  · exact .inl rfl
  · exact .inr (by simp)
theorem OwnsP.cast {W : World} {base : Nat} {v : Value} {m k : List M.Pg} (h : OwnsP W base v m) (e : m = k) : OwnsP W base v k := e ▸ h
theorem OwnsP.kept0 {W W' : World} {base : Nat} {v : Value} {m : List M.Pg} (h : OwnsP W base v m) (hg : W.grownBy W' none) : OwnsP W' base v m := by
  refine ownsP_kept (row := none) h hg ?_
  cases hv : v.ownBlock
  · exact .inl rfl
  · exact .inr (by simp)
theorem own_grown {w W W' : World} {v : Value} {m : List M.Pg} (hb : Below w.heap.size w W) (ho : OwnsP W w.heap.size v m) (hg : W.grownBy W' v.ownBlock) : Below w.heap.size w W' := by
  have h' : W.ownsRow w.heap.size 43 3 v m.length (cellsOf m) := ho
  refine hb.grown hg hb.size (fun k hk => ?_)
  rcases h'.2 with ⟨rfl, _⟩ | ⟨g, cap, cur, rfl, h1, _⟩
  · cases hk
  · have : g = k := Option.some.inj hk
    omega
theorem noughts_conv {W : World} {base g : Nat} (h : W.ownsRow base 5 1 (.slice (some ⟨g, 0, none⟩) 256 256) 256 (madeCells (Value.int .u8 0).cells (256 * 1)).toList) :
    (convert 45 9 (.slice (some ⟨g, 0, none⟩) 256 256)).run Tryd.prog W = .ok (.string noughts) W := by
  have hw := Whole.of_full h
  rw [made_nought] at hw
  have hn : noughts.data.toList = List.replicate 256 0 := rfl
  have h2 := run_convert_bytes_arg W 45 5 Tryd.underlying45 Tryd.underlying5 g 0 256 256 (noughts.data.toList.map (fun b => (b.toNat : Int))) (by rw [List.length_map, hn, List.length_replicate]) (fun i hi => by
    rw [Nat.zero_add, hw.cell, List.getElem?_toArray, List.getElem?_replicate, if_pos hi, hn, List.getD_eq_getElem?_getD, List.getElem?_map, List.getElem?_replicate, if_pos hi]
    rfl) 9 Tryd.underlying9
  rw [h2]
  simp [strOfNums, Function.comp_def]

def newP (a perm : Int) (j : Nat) : List M.Pg := (List.range j).map (fun j : Nat => (⟨a + 256 * j, perm, noughts⟩ : M.Pg))
theorem newP_succ (a perm : Int) (j : Nat) : newP a perm (j + 1) = newP a perm j ++ [⟨a + 256 * j, perm, noughts⟩] := by simp [newP, List.range_succ]
theorem newP_length (a perm : Int) (j : Nat) : (newP a perm j).length = j := by simp [newP]
theorem map_bad {m : List M.Pg} {a n perm : Int} (h : mapArg m a n perm = false) : mapErr m a n perm = 1 ∧ mapM m a n perm = m := by
  have e : mapErr m a n perm = 1 := by unfold mapErr; rw [if_pos h]
  exact ⟨e, by unfold mapM; rw [if_neg (by omega)]⟩
theorem map_all {m : List M.Pg} {a perm : Int} {N : Nat} (hm : a % 256 = 0) (h : mapArg m a N perm = true) :
    (anyB m a N = true → mapErr m a N perm = 9 ∧ mapM m a N perm = m) ∧
    (anyB m a N = false → 64 < m.length + N → mapErr m a N perm = 4 ∧ mapM m a N perm = m) ∧
    (anyB m a N = false → ¬ 64 < m.length + N → mapErr m a N perm = 0 ∧ mapM m a N perm = m.take (M.low m a) ++ (newP a perm N ++ m.drop (M.low m a))) := by
  refine ⟨fun h9 => ?_, fun h0 h4 => ?_, fun h0 h4 => ?_⟩
  · have e : mapErr m a N perm = 9 := by unfold mapErr; rw [if_neg (by simp [h]), if_pos h9]
    exact ⟨e, by unfold mapM; rw [if_neg (by omega)]⟩
  · have e : mapErr m a N perm = 4 := by unfold mapErr; rw [if_neg (by simp [h]), if_neg (by simp [h0]), if_pos (by omega)]
    exact ⟨e, by unfold mapM; rw [if_neg (by omega)]⟩
  · have e : mapErr m a N perm = 0 := by unfold mapErr; rw [if_neg (by simp [h]), if_neg (by simp [h0]), if_neg (by omega)]
    exact ⟨e, by unfold mapM; rw [if_pos e, new_full a perm N hm]; rfl⟩
theorem any_no {m : List M.Pg} {a : Int} {N : Nat} (hm : a % 256 = 0) (h : ∀ j : Nat, j < N → M.there m (a + 256 * j) = false) : anyB m a N = false := by
  unfold anyB
  rw [strs_full N a hm, List.any_eq_false]
  intro x hx
  obtain ⟨j, hj, rfl⟩ := List.mem_map.1 hx
  simp only [h j (List.mem_range.1 hj), Bool.false_eq_true, not_false_eq_true]
theorem any_yes {m : List M.Pg} {a : Int} {N j : Nat} (hm : a % 256 = 0) (hj : j < N) (h : M.there m (a + 256 * j) = true) : anyB m a N = true := by
  unfold anyB
  rw [strs_full N a hm, List.any_eq_true]
  exact ⟨_, List.mem_map.2 ⟨j, List.mem_range.2 hj, rfl⟩, h⟩
theorem mapArg_parts {m : List M.Pg} {a n perm : Int} : mapArg m a n perm = true ↔ rightB m = true ∧ a % 256 = 0 ∧ 1 ≤ n ∧ n ≤ 64 ∧ 0 ≤ perm ∧ perm ≤ 7 ∧ ¬ 18446744073709551616 < a + n * 256 := by
  simp only [mapArg, M.okPerm, beyondB, Bool.and_eq_true, decide_eq_true_eq, Bool.not_eq_true', decide_eq_false_iff_not]
  constructor
  · rintro ⟨h1, h2, h3, h4, h5, h6⟩
    exact ⟨h1, h2, h3, h4, h5.1, h5.2, by omega⟩
  · rintro ⟨h1, h2, h3, h4, h5, h6, h7⟩
    exact ⟨h1, h2, h3, h4, ⟨h5, h6⟩, by omega⟩

set_option maxRecDepth 100000 in
set_option maxHeartbeats 4000000 in
theorem refMap_bad {m : List M.Pg} {v : Value} (a n perm : Int) {w : World} (hP : Pages w v m) (hw : Wf m) (a0 : 0 ≤ a) (a1 : a ≤ 18446744073709551615) (hbad : mapArg m a n perm = false) :
    Calls Tryd.prog 10 #[v, .int .u64 a, .int .i64 n, .int .i64 perm] w (RefPages (mapM m a n perm) (mapErr m a n perm) w) := by
  have HQ := Lib.hid (refRight_any hP hw.a0)
  have HPP := Lib.hid hP
  obtain ⟨A, cap, hv⟩ := hP.slice
  obtain ⟨nv, hnv⟩ : ∃ n, m.length = n := ⟨_, rfl⟩
  rw [hnv] at hv
  subst hv
  obtain ⟨e1, e2⟩ := map_bad hbad
  rw [e1, e2]
  have hb : ¬ (rightB m = true ∧ a % 256 = 0 ∧ 1 ≤ n ∧ n ≤ 64 ∧ 0 ≤ perm ∧ perm ≤ 7 ∧ ¬ 18446744073709551616 < a + n * 256) := fun h => by
    rw [mapArg_parts.2 h] at hbad; cases hbad
  obtain ⟨r, hr⟩ : ∃ r, rightB m = r := ⟨_, rfl⟩
  rw [hr] at HQ hb
  clear hP hw e1 e2 hnv hr hbad
  cases r
  · clear hb
    go_enter Tryd.func10, Tryd.ntmps10
    go_wp2_with fail
    refine HQ.out.mono ?_
    rintro e w1 ⟨rfl, hb1⟩
    have HB1 := Lib.hid hb1
    clear hb1
    go_wp2_with fail
    go_ret2
    exact ⟨_, rfl, HPP.out.next HB1.out, HB1.out⟩
  · by_cases c1 : ¬ a % 256 = 0
    · have t1 : (a % 256 != 0) = true := by simpa using c1
      clear hb c1
      go_enter Tryd.func10, Tryd.ntmps10
      go_wp2_with fail
      refine HQ.out.mono ?_
      rintro e w1 ⟨rfl, hb1⟩
      have HB1 := Lib.hid hb1
      clear hb1
      go_wp2_with fail
      go_ret2
      exact ⟨_, rfl, HPP.out.next HB1.out, HB1.out⟩
    · have t1 : (a % 256 != 0) = false := by simp; omega
      by_cases c2 : n < 1
      · have t2 : decide (n < 1) = true := by simpa using c2
        clear hb c2
        go_enter Tryd.func10, Tryd.ntmps10
        go_wp2_with fail
        refine HQ.out.mono ?_
        rintro e w1 ⟨rfl, hb1⟩
        have HB1 := Lib.hid hb1
        clear hb1
        go_wp2_with fail
        go_ret2
        exact ⟨_, rfl, HPP.out.next HB1.out, HB1.out⟩
      · have t2 : decide (n < 1) = false := by simp; omega
        by_cases c3 : 64 < n
        · have t3 : decide (64 < n) = true := by simpa using c3
          clear hb c3
          go_enter Tryd.func10, Tryd.ntmps10
          go_wp2_with fail
          refine HQ.out.mono ?_
          rintro e w1 ⟨rfl, hb1⟩
          have HB1 := Lib.hid hb1
          clear hb1
          go_wp2_with fail
          go_ret2
          exact ⟨_, rfl, HPP.out.next HB1.out, HB1.out⟩
        · have t3 : decide (64 < n) = false := by simp; omega
          by_cases c4 : perm < 0
          · have t4 : decide (perm < 0) = true := by simpa using c4
            clear hb c4
            go_enter Tryd.func10, Tryd.ntmps10
            go_wp2_with fail
            refine HQ.out.mono ?_
            rintro e w1 ⟨rfl, hb1⟩
            have HB1 := Lib.hid hb1
            clear hb1
            go_wp2_with fail
            go_ret2
            exact ⟨_, rfl, HPP.out.next HB1.out, HB1.out⟩
          · have t4 : decide (perm < 0) = false := by simp; omega
            by_cases c5 : 7 < perm
            · have t5 : decide (7 < perm) = true := by simpa using c5
              clear hb c5
              go_enter Tryd.func10, Tryd.ntmps10
              go_wp2_with fail
              refine HQ.out.mono ?_
              rintro e w1 ⟨rfl, hb1⟩
              have HB1 := Lib.hid hb1
              clear hb1
              go_wp2_with fail
              go_ret2
              exact ⟨_, rfl, HPP.out.next HB1.out, HB1.out⟩
            · have t5 : decide (7 < perm) = false := by simp; omega
              have c6 : 18446744073709551616 < a + n * 256 := by
                apply Classical.byContradiction
                intro h
                exact hb ⟨rfl, by omega, by omega, by omega, by omega, by omega, h⟩
              obtain ⟨N, rfl⟩ := Int.eq_ofNat_of_zero_le (show 0 ≤ n by omega)
              have w1 : IntKind.u64.wrap (N : Int) = (N : Int) := by rw [IntKind.wrap_u64]; omega
              have m4 : Int.tdiv a 256 = a / 256 := by rw [Int.tdiv_eq_ediv_of_nonneg a0]
              have w2 : IntKind.u64.wrap (a / 256 + (N : Int)) = a / 256 + (N : Int) := by rw [IntKind.wrap_u64]; omega
              have t6 : decide ((72057594037927936 : Int) < a / 256 + (N : Int)) = true := by simp; omega
              clear hb c6
              go_enter Tryd.func10, Tryd.ntmps10
              go_wp2_with fail
              refine HQ.out.mono ?_
              rintro e w1 ⟨rfl, hb1⟩
              have HB1 := Lib.hid hb1
              clear hb1
              go_wp2_with fail
              go_ret2
              exact ⟨_, rfl, HPP.out.next HB1.out, HB1.out⟩

set_option maxRecDepth 100000 in
set_option maxHeartbeats 8000000 in
theorem refMap_good {m : List M.Pg} {v : Value} (a perm : Int) (N : Nat) {w : World} (hP : Pages w v m) (hw : Wf m) (a0 : 0 ≤ a) (a1 : a ≤ 18446744073709551615) (hgood : mapArg m a N perm = true) :
    Calls Tryd.prog 10 #[v, .int .u64 a, .int .i64 N, .int .i64 perm] w (RefPages (mapM m a N perm) (mapErr m a N perm) w) := by
  obtain ⟨i0, hi0, hz0, hz1, hz2⟩ := info_parts (show (Tryd.prog.info? 5).map (fun i => (i.zero, i.size, i.bytes)) = some (some (.int .u8 0), 1, 1) by kernel_rfl)
  obtain ⟨hr, hm, b1, b64, p0, p7, hend⟩ := mapArg_parts.1 hgood
  have hR := Right.of hr hw.a0 hw.a1
  have HQ := Lib.hid (refRight_any hP hw.a0)
  rw [hr] at HQ
  have HPP := Lib.hid hP
  have HA := Lib.hid (fun (W : World) (hb : Below w.heap.size w W) (t : Int) (t0 : 0 ≤ t) (t1 : t ≤ 18446744073709551615) => refAt_any t (hP.next hb) hR t0 t1)
  have HLO := Lib.hid (fun (k : Nat) (h : k < m.length) => M.lt_low hR.up a h)
  have HLE := Lib.hid (M.low_le m a)
  have HNT := Lib.hid (fun (h : anyB m a N = false) (k : Nat) (hk : k < m.length) => (show m[k].a ≠ a from by have h1 := not_there hm h _ (List.getElem_mem hk) 0 (by omega); simpa using h1))
  have hlen := hR.len
  obtain ⟨g9, g4, g0⟩ := map_all hm hgood
  have HAN := Lib.hid (fun h => any_no (m := m) (N := N) hm h)
  have HAY := Lib.hid (fun (j : Nat) (hj : j < N) h => any_yes (m := m) hm hj h)
  have HAT := Lib.hid (fun (j : Nat) => (show a + 256 * (j : Int) - (a + 256 * (j : Int)) % 256 = a + 256 * (j : Int) from by omega))
  obtain ⟨E, hE⟩ : ∃ E, mapErr m a N perm = E := ⟨_, rfl⟩
  obtain ⟨S, hS⟩ : ∃ S, mapM m a N perm = S := ⟨_, rfl⟩
  obtain ⟨L, hL⟩ : ∃ L, M.low m a = L := ⟨_, rfl⟩
  rw [hE, hS, hL] at g0
  rw [hE, hS] at g9 g4 ⊢
  rw [hL] at HLO HLE
  have G0 := Lib.hid g0
  have G4 := Lib.hid g4
  have G9 := Lib.hid g9
  obtain ⟨A, cap, hv⟩ := hP.slice
  obtain ⟨nv, hnv⟩ : ∃ n, m.length = n := ⟨_, rfl⟩
  rw [hnv] at hv hlen
  subst hv
  have HN := Lib.hid hnv
  have HPI := Lib.hid (fun (h : 0 < nv) => (show ∃ b off, A = some ⟨b, off, none⟩ ∧ PagesIn w b off m from by
    rcases hP with ⟨rfl, _⟩ | ⟨_, b, off, c, e, hh⟩
    · simp at hnv; omega
    · cases e; exact ⟨b, off, rfl, hh⟩))
  have t1 : (a % 256 != 0) = false := by simp; omega
  have t2 : decide ((N : Int) < 1) = false := by simp; omega
  have t3 : decide (64 < (N : Int)) = false := by simp; omega
  have t4 : decide (perm < 0) = false := by simp; omega
  have t5 : decide (7 < perm) = false := by simp; omega
  have wn1 : IntKind.u64.wrap (N : Int) = (N : Int) := by rw [IntKind.wrap_u64]; omega
  have m4 : Int.tdiv a 256 = a / 256 := by rw [Int.tdiv_eq_ediv_of_nonneg a0]
  have wn2 : IntKind.u64.wrap (a / 256 + (N : Int)) = a / 256 + (N : Int) := by rw [IntKind.wrap_u64]; omega
  have t6 : decide ((72057594037927936 : Int) < a / 256 + (N : Int)) = false := by simp; omega
  have HM := Lib.hid hm
  clear hP hw hR hr hnv hE hS hL g0 g4 g9 hgood hm
  go_enter Tryd.func10, Tryd.ntmps10
  go_wp2_with fail
  refine HQ.out.mono ?_
  rintro e w1 ⟨rfl, hb1⟩
  have HB1 := Lib.hid hb1
  clear hb1
  go_wp2_with fail
  clear t1 t2 t3 t4 t5 wn1 m4 wn2 t6
  go_loopw [11] (fun i wr => ∃ j : Nat, j ≤ N ∧ i = .int .i64 j ∧ (∀ k : Nat, k < j → M.there m (a + 256 * k) = false) ∧ Below w.heap.size w wr) (fun i _ => N - (intOf i).toNat)
  case atStart => exact ⟨0, Nat.zero_le _, rfl, fun k h => absurd h (Nat.not_lt_zero _), HB1.out⟩
  case round =>
    obtain ⟨j, hj, rfl, hno, hb⟩ := hrel
    have HB := Lib.hid hb
    have HNO := Lib.hid hno
    clear hb hno
    by_cases hlt : j < N
    · have wj : IntKind.u64.wrap (j : Int) = (j : Int) := by rw [IntKind.wrap_u64]; omega
      have wm : IntKind.u64.wrap (256 * (j : Int)) = 256 * (j : Int) := by rw [IntKind.wrap_u64]; omega
      have wa : IntKind.u64.wrap (a + 256 * (j : Int)) = a + 256 * (j : Int) := by rw [IntKind.wrap_u64]; omega
      have lj : (j : Int) < (N : Int) := by omega
      have HC := Lib.hid (HA.out wr HB.out (a + 256 * j) (by omega) (by omega))
      cases hc : M.there m (a + 256 * (j : Int))
      · have hA : atI m (a + 256 * j) = -1 := by unfold atI; rw [HAT.out, hc]; rfl
        rw [hA] at HC
        have HNX := Lib.hid (fun (k : Nat) (hk : k < j + 1) => (show M.there m (a + 256 * k) = false from by
          by_cases e : k = j
          · subst e; exact hc
          · exact HNO.out k (by omega)))
        clear hA hc
        go_wp2_with fail
        refine HC.out.mono ?_
        rintro e w2 ⟨rfl, rfl⟩
        go_wp2_with fail
        go_roundw
        case rel => exact ⟨j + 1, by omega, by go_num, HNX.out, HB.out⟩
        case measure => simp [intOf]; omega
      · have HF := Lib.hid (G9.out (HAY.out j hlt hc))
        have hA : atI m (a + 256 * j) = M.low m (a + 256 * (j : Int)) := by unfold atI; rw [HAT.out, hc]; rfl
        rw [hA] at HC
        obtain ⟨i, hie⟩ : ∃ i, M.low m (a + 256 * (j : Int)) = i := ⟨_, rfl⟩
        rw [hie] at HC
        have ii : decide ((0 : Int) ≤ (i : Int)) = true := by simp
        clear hA hc hie
        go_wp2_with fail
        refine HC.out.mono ?_
        rintro e w2 ⟨rfl, rfl⟩
        go_wp2_with fail
        go_ret2
        exact ⟨_, by rw [HF.out.1]; rfl, by rw [HF.out.2]; exact HPP.out.next HB.out, HB.out⟩
    · obtain rfl : j = N := by omega
      have hany := HAN.out HNO.out
      have HNTT := Lib.hid (HNT.out hany)
      by_cases h64 : 64 < nv + j
      · have HF := Lib.hid (G4.out hany (by have := HN.out; omega))
        have wl : IntKind.i64.wrap ((nv : Int) + (j : Int)) = (nv : Int) + (j : Int) := by rw [IntKind.wrap_i64]; omega
        have l64 : decide ((64 : Int) < (nv : Int) + (j : Int)) = true := by simp; omega
        clear hany
        go_wp2_with fail
        go_ret2
        exact ⟨_, by rw [HF.out.1]; rfl, by rw [HF.out.2]; exact HPP.out.next HB.out, HB.out⟩
      · have HF := Lib.hid (G0.out hany (by have := HN.out; omega))
        have wl : IntKind.i64.wrap ((nv : Int) + (j : Int)) = (nv : Int) + (j : Int) := by rw [IntKind.wrap_i64]; omega
        have l64 : decide ((64 : Int) < (nv : Int) + (j : Int)) = false := by simp; omega
        clear hany
        go_wp2_with fail
        clear wl l64
        go_loopw [12, 13] (fun o i wr => ∃ k : Nat, k ≤ L ∧ i = .int .i64 k ∧ OwnsP wr w.heap.size o (m.take k) ∧ Below w.heap.size w wr) (fun _ i _ => L - (intOf i).toNat)
        case atStart => exact ⟨0, Nat.zero_le _, rfl, ⟨rfl, .inl ⟨rfl, rfl⟩⟩, HB.out⟩
        case round =>
          obtain ⟨k, hk, rfl, ho, hb⟩ := hrel
          have HB := Lib.hid hb
          have HO := Lib.hid ho
          clear hb ho
          by_cases hkL : k < L
          · have hkm : k < m.length := by have := HLE.out; omega
            have hkn : k < nv := by have := HN.out; omega
            obtain ⟨b, off, rfl, hPI⟩ := HPI.out (by omega)
            obtain ⟨e0, e1, e2⟩ := (hPI.next HB.out).2 k hkm
            have hlo := (HLO.out k hkm).2 hkL
            have HTK := Lib.hid (show m.take (k + 1) = m.take k ++ [m[k]] from by rw [List.take_succ_eq_append_getElem hkm])
            have HOA := Lib.hid (HO.out.alloc (.cells #[.int .u64 (m[k]).a, .int .i64 (m[k]).p, .string (m[k]).d] 43))
            have HPO := Lib.hid (one_page wr m[k])
            have HBA := Lib.hid (balloc HB.out (.cells #[.int .u64 (m[k]).a, .int .i64 (m[k]).p, .string (m[k]).d] 43))
            obtain ⟨⟨xa, xp, xd⟩, hx⟩ : ∃ x, m[k] = x := ⟨_, rfl⟩
            rw [hx] at e0 e1 e2 hlo HTK HOA HPO HBA
            simp only at e0 e1 e2 hlo HOA HPO HBA
            have k0 : (0 : Int) ≤ (k : Int) := Int.natCast_nonneg _
            have k1 : (k : Int) < (nv : Int) := by omega
            have lo2 : decide (xa < a) = true := by simpa using hlo
            clear hx hPI hlo
            go_wp2_with ((
              at_builtin
              refine wpList_append_pages rfl _ _ rfl w.heap.size _ (m.take k) [⟨xa, xp, xd⟩] rfl HOA.out _ rfl HPO.out (by have h := List.length_take_le k m; have h2 : ([⟨xa, xp, xd⟩] : List M.Pg).length = 1 := rfl; rw [h2]; omega) (by have := HB.out.size; simp; omega) ?_
              intro v' w3 hown hgrow
              have HO3 := Lib.hid hown
              have HB3 := Lib.hid (own_grown HBA.out HOA.out hgrow)
              clear hown hgrow))
            go_roundw
            case rel => exact ⟨k + 1, by omega, by go_num, by rw [HTK.out]; exact HO3.out, HB3.out⟩
            case measure => simp [intOf]; omega
          · obtain rfl : k = L := by omega
            have HO' := Lib.hid (HO.out.cast (show m.take k = m.take k ++ newP a perm 0 by rw [show newP a perm 0 = [] from rfl, List.append_nil]))
            by_cases hkn : k < nv
            all_goals
              first
                | (obtain ⟨b, off, hAA, hPI⟩ := HPI.out (Nat.lt_of_le_of_lt (Nat.zero_le _) hkn)
                   have hkm : k < m.length := by have := HN.out; omega
                   obtain ⟨e0, -, -⟩ := (hPI.next HB.out).2 k hkm
                   have hlo : ¬ m[k].a < a := fun h => by have := (HLO.out k hkm).1 h; omega
                   obtain ⟨xa, hx⟩ : ∃ x, m[k].a = x := ⟨_, rfl⟩
                   rw [hx] at e0 hlo
                   have k0 : (0 : Int) ≤ (k : Int) := Int.natCast_nonneg _
                   have k1 : (k : Int) < (nv : Int) := by omega
                   have lo2 : decide (xa < a) = false := by simpa using hlo
                   have HAA := Lib.hid hAA
                   subst hAA
                   clear hPI hlo hx)
                | (have k1 : ¬ (k : Int) < (nv : Int) := by omega)
              go_wp2_with fail
              go_loopw [12, 14] (fun o i wr => ∃ q : Nat, q ≤ j ∧ i = .int .i64 q ∧ OwnsP wr w.heap.size o (m.take k ++ newP a perm q) ∧ Below w.heap.size w wr) (fun _ i _ => j - (intOf i).toNat)
              case atStart => exact ⟨0, Nat.zero_le _, rfl, HO'.out, HB.out⟩
              case round =>
                obtain ⟨q, hq, rfl, ho, hb⟩ := hrel
                have HB := Lib.hid hb
                have HO := Lib.hid ho
                clear hb ho
                by_cases hqj : q < j
                · have wj : IntKind.u64.wrap (q : Int) = (q : Int) := by rw [IntKind.wrap_u64]; omega
                  have wm : IntKind.u64.wrap (256 * (q : Int)) = 256 * (q : Int) := by rw [IntKind.wrap_u64]; omega
                  have wa : IntKind.u64.wrap (a + 256 * (q : Int)) = a + 256 * (q : Int) := by rw [IntKind.wrap_u64]; omega
                  have lj : (q : Int) < (j : Int) := by omega
                  have HTL := Lib.hid (show m.take k ++ newP a perm (q + 1) = (m.take k ++ newP a perm q) ++ [⟨a + 256 * q, perm, noughts⟩] by rw [newP_succ, List.append_assoc])
                  have HLN := Lib.hid (show (m.take k ++ newP a perm q).length ≤ 128 by rw [List.length_append, newP_length]; have := List.length_take_le k m; have := HLE.out; have := HN.out; omega)
                  obtain ⟨Z, hZ⟩ : ∃ Z, noughts = Z := ⟨_, rfl⟩
                  have HZ := Lib.hid hZ
                  go_wp2_with (first
                    | (at_make
                       refine wpList_make_full _ rfl _ _ 45 rfl wr.heap.size 5 i0 (.int .u8 0) 1 Tryd.underlying45 hi0 hz0 hz1 .i64 .i64 _ _ 256 rfl rfl rfl rfl (by rw [hz2]; omega) (by unfold maxLen; omega) (Nat.le_refl _) ?_
                       intro w0 hown0 hgrow0
                       have hcv := noughts_conv hown0
                       rw [HZ.out] at hcv
                       have HOW := Lib.hid ((HO.out.kept0 hgrow0).alloc (.cells #[.int .u64 (a + 256 * (q : Int)), .int .i64 perm, .string Z] 43))
                       have HB0 := Lib.hid (balloc (HB.out.grown hgrow0 HB.out.size (fun k hk => by cases hk)) (.cells #[.int .u64 (a + 256 * (q : Int)), .int .i64 perm, .string Z] 43))
                       have HPO := Lib.hid (one_page w0 ⟨a + 256 * (q : Int), perm, Z⟩)
                       clear hown0 hgrow0)
                    | (at_builtin
                       refine wpList_append_pages rfl _ _ rfl w.heap.size _ (m.take k ++ newP a perm q) [⟨a + 256 * (q : Int), perm, Z⟩] rfl HOW.out _ rfl HPO.out (by have h := HLN.out; have h2 : ([⟨a + 256 * (q : Int), perm, Z⟩] : List M.Pg).length = 1 := rfl; rw [h2]; omega) HB0.out.size ?_
                       intro v' w3 hown hgrow
                       have HO3 := Lib.hid hown
                       have HB3 := Lib.hid (own_grown HB0.out HOW.out hgrow)
                       clear hown hgrow))
                  go_roundw
                  case rel => exact ⟨q + 1, by omega, by go_num, by rw [HTL.out, HZ.out]; exact HO3.out, HB3.out⟩
                  case measure => simp [intOf]; omega
                · obtain rfl : q = j := by omega
                  have HO' := Lib.hid (HO.out.cast (show m.take k ++ newP a perm q = m.take k ++ (newP a perm q ++ (m.drop k).take (0 - k)) by rw [Nat.zero_sub, List.take_zero, List.append_nil]))
                  go_wp2_with fail
                  go_loopw [12, 15] (fun o i wr => ∃ r : Nat, r ≤ nv ∧ i = .int .i64 r ∧ OwnsP wr w.heap.size o (m.take k ++ (newP a perm q ++ (m.drop k).take (r - k))) ∧ Below w.heap.size w wr) (fun _ i _ => nv - (intOf i).toNat)
                  case atStart => exact ⟨0, Nat.zero_le _, rfl, HO'.out, HB.out⟩
                  case round =>
                    obtain ⟨r, hr, rfl, ho, hb⟩ := hrel
                    have HB := Lib.hid hb
                    have HO := Lib.hid ho
                    clear hb ho
                    by_cases hrn : r < nv
                    · have hrm : r < m.length := by have := HN.out; omega
                      obtain ⟨b', off', hAA', hPI⟩ := HPI.out (by omega)
                      first | (subst hAA') | (cases hAA')
                      obtain ⟨f0, f1, f2⟩ := (hPI.next HB.out).2 r hrm
                      have hlo := HLO.out r hrm
                      have hnt := HNTT.out r hrm
                      have HTK := Lib.hid (show k ≤ r → m.take k ++ (newP a perm q ++ (m.drop k).take (r + 1 - k)) = (m.take k ++ (newP a perm q ++ (m.drop k).take (r - k))) ++ [m[r]] from fun h => by
                        rw [show r + 1 - k = (r - k) + 1 by omega, List.take_succ_eq_append_getElem (by rw [List.length_drop]; omega), List.getElem_drop]
                        simp only [show k + (r - k) = r by omega, List.append_assoc])
                      have HLN := Lib.hid (show (m.take k ++ (newP a perm q ++ (m.drop k).take (r - k))).length ≤ 1000 by
                        rw [List.length_append, List.length_append, newP_length]
                        have h1 := List.length_take_le k m
                        have h2 := List.length_take_le' (r - k) (m.drop k)
                        rw [List.length_drop] at h2
                        have := HN.out
                        have := HLE.out
                        omega)
                      have HOA := Lib.hid (HO.out.alloc (.cells #[.int .u64 (m[r]).a, .int .i64 (m[r]).p, .string (m[r]).d] 43))
                      have HPO := Lib.hid (one_page wr m[r])
                      have HBA := Lib.hid (balloc HB.out (.cells #[.int .u64 (m[r]).a, .int .i64 (m[r]).p, .string (m[r]).d] 43))
                      obtain ⟨⟨xa, xp, xd⟩, hx⟩ : ∃ x, m[r] = x := ⟨_, rfl⟩
                      rw [hx] at f0 f1 f2 hlo hnt HTK HOA HPO HBA
                      simp only at f0 f1 f2 hlo hnt HOA HPO HBA
                      have r0 : (0 : Int) ≤ (r : Int) := Int.natCast_nonneg _
                      have r1 : (r : Int) < (nv : Int) := by omega
                      by_cases hup : a < xa
                      · have hup2 : decide (a < xa) = true := by simpa using hup
                        have hkr : k ≤ r := by
                          apply Classical.byContradiction
                          intro h
                          have := hlo.2 (by omega)
                          omega
                        first
                          | (exfalso; omega)
                          | (clear hx hPI hlo hnt
                             go_wp2_with ((
                               at_builtin
                               refine wpList_append_pages rfl _ _ rfl w.heap.size _ _ [⟨xa, xp, xd⟩] rfl HOA.out _ rfl HPO.out (by have h := HLN.out; have h2 : ([⟨xa, xp, xd⟩] : List M.Pg).length = 1 := rfl; rw [h2]; omega) (by have := HB.out.size; simp; omega) ?_
                               intro v' w3 hown hgrow
                               have HO3 := Lib.hid hown
                               have HB3 := Lib.hid (own_grown HBA.out HOA.out hgrow)
                               clear hown hgrow))
                             go_roundw
                             case rel => exact ⟨r + 1, by omega, by go_num, by rw [HTK.out hkr]; exact HO3.out, HB3.out⟩
                             case measure => simp [intOf]; omega)
                      · have hup2 : decide (a < xa) = false := by simpa using hup
                        have hrk : r < k := hlo.1 (by omega)
                        have HSM := Lib.hid (show (m.drop k).take (r + 1 - k) = (m.drop k).take (r - k) by rw [show r + 1 - k = r - k by omega])
                        clear hx hPI hlo hnt
                        go_wp2_with fail
                        go_roundw
                        case rel => exact ⟨r + 1, by omega, by go_num, by rw [HSM.out]; exact HO.out, HB.out⟩
                        case measure => simp [intOf]; omega
                    · obtain rfl : r = nv := by omega
                      have HFIN := Lib.hid (show (m.drop k).take (r - k) = m.drop k from List.take_of_length_le (by rw [List.length_drop]; have := HN.out; omega))
                      have r1 : ¬ (r : Int) < (r : Int) := by omega
                      go_wp2_with fail
                      go_ret2
                      exact ⟨_, by rw [HF.out.1]; rfl, by rw [HF.out.2, ← HFIN.out]; exact HO.out.pages, HB.out⟩
theorem refMap_any {m : List M.Pg} {v : Value} (a n perm : Int) {w : World} (hP : Pages w v m) (hw : Wf m) (a0 : 0 ≤ a) (a1 : a ≤ 18446744073709551615) :
    Calls Tryd.prog 10 #[v, .int .u64 a, .int .i64 n, .int .i64 perm] w (RefPages (mapM m a n perm) (mapErr m a n perm) w) := by
  cases h : mapArg m a n perm
  · exact refMap_bad a n perm hP hw a0 a1 h
  · obtain ⟨N, rfl⟩ := Int.eq_ofNat_of_zero_le (show 0 ≤ n by have := (mapArg_parts.1 h).2.2.1; omega)
    exact refMap_good a perm N hP hw a0 a1 h
end Go.Proofs.YtclbkdnihhmglaaDoor
