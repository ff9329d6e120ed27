/- The reference of package pick: which names a module defines, and wants; is a text in a row; is a name defined; is one open? -/
import Derived.Test.YtcfniagmnkngfaaQ2
namespace Go.Proofs.Ytcfniagmnkngfaa
open Go.RowKit

set_option maxRecDepth 100000 in
set_option maxHeartbeats 8000000 in
theorem refDefines_any (m : Md) (F G : Option Addr) (nf cf ng cg : Nat) (w : World) (hnf : m.f.length = nf) (hng : m.g.length = ng) (h16 : (nf + ng) * 16 ≤ 140737488355000) (hS : MdAt w (.slice F nf cf) (.slice G ng cg) m) :
    Calls Try.prog 29 #[.agg #[.slice F nf cf, .slice G ng cg]] w (NewNames (selM defP m) w) := by
  have HS := Lib.hid hS
  have HNF := Lib.hid (show m.f.length ≤ nf ∧ nf ≤ m.f.length by omega)
  have HNG := Lib.hid (show m.g.length ≤ ng ∧ ng ≤ m.g.length by omega)
  have H16 := Lib.hid h16
  have HSM := Lib.hid (show selM defP m = selF defP m.f ++ selG defP m.g from rfl)
  have f9 : (nf : Int) ≤ 9223372036854775807 := by omega
  have g9 : (ng : Int) ≤ 9223372036854775807 := by omega
  obtain ⟨i0, qi, qz0, qz1, qz2⟩ := str_inf
  have HII := Lib.hid (And.intro qi (And.intro qz0 (And.intro qz1 qz2)))
  clear hS hnf hng h16 qi qz0 qz1 qz2
  go_enter Try.func29, Try.ntmps29
  go_upto_region 1 with fail
  have HIN := Lib.hid (heap_alloc_new w (.cells #[.slice F nf cf, .slice G ng cg] 25))
  have HBW := Lib.hid (balloc (Below.refl _ w) (.cells #[.slice F nf cf, .slice G ng cg] 25))
  generalize w.alloc (.cells #[.slice F nf cf, .slice G ng cg] 25) = W0 at *
  go_wp2_with fail
  go_loopw [3, 4] (fun vv iv wr => ∃ i : Nat, i ≤ nf ∧ iv = .int .i64 i ∧ OwnsN wr (w.heap.size + 1) vv (selF defP (m.f.take i)) ∧ wr.heap[w.heap.size]? = some (.cells #[.slice F nf cf, .slice G ng cg] 25 (0, 0)) ∧ Below w.heap.size w wr ∧ w.heap.size + 1 ≤ wr.heap.size) (fun _ iv _ => nf - (intOf iv).toNat)
  case atStart => exact ⟨0, Nat.zero_le _, rfl, ⟨rfl, .inl ⟨rfl, rfl⟩⟩, HIN.out, HBW.out, (Array.getElem?_eq_some_iff.1 HIN.out).1⟩
  case round =>
    obtain ⟨i, hi, rfl, ho, hin, hb, hsz⟩ := hrel
    have HL16 := Lib.hid (show ((selF defP (m.f.take i)).length + 1) * 16 ≤ 140737488355016 by
      have h1 := selF_len defP (m.f.take i)
      have h2 := selG_len defP m.g
      rw [List.length_take] at h1
      have := HNF.out
      have := HNG.out
      have := H16.out
      omega)
    have HX := Lib.hid (fun (h : i < m.f.length) => (show selF defP (m.f.take (i + 1)) = if (defP (decide (0 < m.f[i].l.length)) m.f[i].b) = true then selF defP (m.f.take i) ++ [m.f[i].s] else selF defP (m.f.take i) from by exact selF_take (p := defP) h))
    have HAL0 := Lib.hid (show i = nf → selF defP (m.f.take i) = selF defP m.f from fun h => by rw [List.take_of_length_le (by have := HNF.out; omega)])
    obtain ⟨L, hL⟩ : ∃ L, selF defP (m.f.take i) = L := ⟨_, rfl⟩
    rw [hL] at ho HL16 HAL0
    simp only [hL] at HX
    have HO := Lib.hid ho
    have HI := Lib.hid hin
    have HB := Lib.hid hb
    have HSZ := Lib.hid hsz
    obtain ⟨A0, z0, hv0⟩ := ho.form
    have c0 := Lib.cell_of_heap hin 0
    have c1 := Lib.cell_of_heap hin 1
    simp only [List.getElem?_toArray, List.getElem?_cons_zero, List.getElem?_cons_succ] at c0 c1
    clear hin hb hsz hL
    by_cases hlt : i < nf
    · have hm : i < m.f.length := by have := HNF.out; omega
      obtain ⟨b1, off, hA, hbl, e0⟩ := RowOf.at_ HS.out.1 hm
      subst hA
      have HN1 := Lib.hid (HX.out hm)
      obtain ⟨g0, g1, g2, A3, z3, g3, -⟩ := FnAt.next _ _ _ _ _ hbl HB.out e0
      obtain ⟨x0, h0⟩ : ∃ z, m.f[i].s = z := ⟨_, rfl⟩
      obtain ⟨x1, h1⟩ : ∃ z, m.f[i].b = z := ⟨_, rfl⟩
      obtain ⟨x3, h3⟩ : ∃ z, m.f[i].l.length = z := ⟨_, rfl⟩
      rw [h0] at g0 HN1
      rw [h1] at g1 HN1
      rw [h3] at g3 HN1
      clear h0 h1 h3 g2
      obtain ⟨nL, hnL⟩ : ∃ n, L.length = n := ⟨_, rfl⟩
      rw [hnL] at hv0 HL16
      subst hv0
      have HNQ := Lib.hid hnL
      have r0 : (0 : Int) ≤ (i : Int) := Int.natCast_nonneg _
      have r1 : (i : Int) < (nf : Int) := by omega
      have HLT := Lib.hid hlt
      have HAL := Lib.hid (ownsN_kept HO.out (World.grownBy_alloc wr (.cells #[.string x0] 9) none) (by by_cases h : (Value.slice A0 nL z0).ownBlock = none; exact .inl h; exact .inr h))
      have HOWN := Lib.hid (show (wr.alloc (.cells #[.string x0] 9)).ownsRow (w.heap.size + 1) 9 1 (.slice A0 nL z0) nL (strRow L) by have := HAL.out; unfold OwnsN at this; rwa [hnL] at this)
      have HONE := Lib.hid (show ∀ u ∈ [Value.string x0], u.oneCell' = true from fun u hu => by obtain rfl : u = Value.string x0 := (by simpa using hu); rfl)
      have HM63 := Lib.hid (show nL + 1 ≤ maxLen by unfold maxLen; have := HL16.out; omega)
      have HM16 := Lib.hid (show (nL + 1) * 16 ≤ 140737488355328 by have := HL16.out; omega)
      have HBAS := Lib.hid (show w.heap.size + 1 ≤ (wr.alloc (.cells #[.string x0] 9)).heap.size by have := HSZ.out; simp; omega)
      have HBX := Lib.hid (balloc (Below.refl _ wr) (.cells #[.string x0] 9))
      clear hm hlt hnL ho hbl e0
      by_cases hx3 : 0 < x3
      case neg =>
        have t3 : decide (0 < x3) = false := decide_eq_false hx3
        have t3' : decide ((0 : Int) < (x3 : Int)) = false := decide_eq_false (by omega)
        have HV := Lib.hid (show selF defP (m.f.take (i + 1)) = L by rw [HN1.out, show defP (decide (0 < x3)) x1 = false by unfold defP; rw [t3]; rfl]; rfl)
        go_wp2_with fail
        go_roundw
        case rel => exact ⟨i + 1, HLT.out, by go_num, by rw [HV.out]; exact HO.out, HI.out, HB.out, HSZ.out⟩
        case measure => have := HLT.out; simp [intOf]; omega
      have t3 : decide (0 < x3) = true := decide_eq_true hx3
      have t3' : decide ((0 : Int) < (x3 : Int)) = true := decide_eq_true (by omega)
      by_cases hx1 : x1 = 1
      case pos =>
        subst hx1
        have HV := Lib.hid (show selF defP (m.f.take (i + 1)) = L by rw [HN1.out, show defP (decide (0 < x3)) 1 = false by unfold defP; simp]; rfl)
        go_wp2_with fail
        go_roundw
        case rel => exact ⟨i + 1, HLT.out, by go_num, by rw [HV.out]; exact HO.out, HI.out, HB.out, HSZ.out⟩
        case measure => have := HLT.out; simp [intOf]; omega
      have n1 : (x1 == 1) = false := by simpa using hx1
      have HV := Lib.hid (show selF defP (m.f.take (i + 1)) = L ++ [x0] by rw [HN1.out, show defP (decide (0 < x3)) x1 = true by unfold defP; rw [t3, n1]; rfl]; rfl)
      go_wp2_with (at_builtin; go_loud (refine wpList_append_own_at _ rfl _ _ 49 rfl (w.heap.size + 1) 9 i0 (.string ⟨#[]⟩) 1 16 Try.underlying49 HII.out.1 HII.out.2.1 HII.out.2.2.1 HII.out.2.2.2 rfl (by omega) (.slice A0 nL z0) nL (strRow L) rfl HOWN.out ⟨wr.heap.size, 0, none⟩ 1 1 [.string x0] rfl rfl (cell_one_new _ _ _) HONE.out HM63.out HM16.out HBAS.out ?_; intro v' w4 hown hgrow hnil hat))
      have HG := Lib.hid hgrow
      have HOW := Lib.hid hown
      clear hgrow hown hnil hat
      go_wp2_with fail
      have HKB := Lib.hid ((HG.out.block w.heap.size (by have := HSZ.out; simp; omega) (fun e => by have := (HO.out.block _ e.symm).1; omega)).trans ((HBX.out.block _ (Array.getElem?_eq_some_iff.1 HI.out).1).trans HI.out))
      have HBB := Lib.hid (show Below w.heap.size w w4 from below_grown HG.out (bthen HB.out HBX.out).size (fun r e => by have := (HO.out.block _ e).1; omega) |> fun g => (bthen HB.out HBX.out).trans g)
      go_roundw
      case rel =>
        refine ⟨i + 1, HLT.out, by go_num, ?_, HKB.out, HBB.out, Nat.le_trans HBAS.out HG.out.size⟩
        rw [HV.out]
        unfold OwnsN
        rw [List.length_append, HNQ.out]
        simpa [strRow] using HOW.out
      case measure => have := HLT.out; simp [intOf]; omega
    · have hd : decide ((i : Int) < (nf : Int)) = false := by simp; omega
      have HF := Lib.hid (HAL0.out (by omega))
      go_wp2_with fail
      clear c0 c1 hd
      go_loopw [3, 5] (fun vv iv wr => ∃ i : Nat, i ≤ ng ∧ iv = .int .i64 i ∧ OwnsN wr (w.heap.size + 1) vv (selF defP m.f ++ selG defP (m.g.take i)) ∧ wr.heap[w.heap.size]? = some (.cells #[.slice F nf cf, .slice G ng cg] 25 (0, 0)) ∧ Below w.heap.size w wr ∧ w.heap.size + 1 ≤ wr.heap.size) (fun _ iv _ => ng - (intOf iv).toNat)
      case atStart => exact ⟨0, Nat.zero_le _, rfl, by rw [List.take_zero, show selG defP [] = [] from rfl, List.append_nil, ← HF.out]; exact HO.out, HI.out, HB.out, HSZ.out⟩
      case round =>
        obtain ⟨i, hi, rfl, ho, hin, hb, hsz⟩ := hrel
        have HL16 := Lib.hid (show ((selF defP m.f ++ selG defP (m.g.take i)).length + 1) * 16 ≤ 140737488355016 by
          have h1 := selF_len defP m.f
          have h2 := selG_len defP (m.g.take i)
          rw [List.length_take] at h2; rw [List.length_append]
          have := HNF.out
          have := HNG.out
          have := H16.out
          omega)
        have HX := Lib.hid (fun (h : i < m.g.length) => (show selF defP m.f ++ selG defP (m.g.take (i + 1)) = if (defP m.g[i].h m.g[i].b) = true then selF defP m.f ++ selG defP (m.g.take i) ++ [m.g[i].s] else selF defP m.f ++ selG defP (m.g.take i) from by rw [selG_take (p := defP) h]; split <;> simp))
        have HAL0 := Lib.hid (show i = ng → selF defP m.f ++ selG defP (m.g.take i) = selF defP m.f ++ selG defP m.g from fun h => by rw [List.take_of_length_le (by have := HNG.out; omega)])
        obtain ⟨L, hL⟩ : ∃ L, selF defP m.f ++ selG defP (m.g.take i) = L := ⟨_, rfl⟩
        rw [hL] at ho HL16 HAL0
        simp only [hL] at HX
        have HO := Lib.hid ho
        have HI := Lib.hid hin
        have HB := Lib.hid hb
        have HSZ := Lib.hid hsz
        obtain ⟨A0, z0, hv0⟩ := ho.form
        have c0 := Lib.cell_of_heap hin 0
        have c1 := Lib.cell_of_heap hin 1
        simp only [List.getElem?_toArray, List.getElem?_cons_zero, List.getElem?_cons_succ] at c0 c1
        clear hin hb hsz hL
        by_cases hlt : i < ng
        · have hm : i < m.g.length := by have := HNG.out; omega
          obtain ⟨b1, off, hA, hbl, e0⟩ := RowOf.at_ HS.out.2 hm
          subst hA
          have HN1 := Lib.hid (HX.out hm)
          obtain ⟨g0, g1, g2, g3⟩ := GlAt.next _ _ _ _ _ hbl HB.out e0
          obtain ⟨x0, h0⟩ : ∃ z, m.g[i].s = z := ⟨_, rfl⟩
          obtain ⟨x1, h1⟩ : ∃ z, m.g[i].b = z := ⟨_, rfl⟩
          obtain ⟨x2, h2⟩ : ∃ z, m.g[i].h = z := ⟨_, rfl⟩
          rw [h0] at g0 HN1
          rw [h1] at g1 HN1
          rw [h2] at g2 HN1
          clear h0 h1 h2 g3
          obtain ⟨nL, hnL⟩ : ∃ n, L.length = n := ⟨_, rfl⟩
          rw [hnL] at hv0 HL16
          subst hv0
          have HNQ := Lib.hid hnL
          have r0 : (0 : Int) ≤ (i : Int) := Int.natCast_nonneg _
          have r1 : (i : Int) < (ng : Int) := by omega
          have HLT := Lib.hid hlt
          have HAL := Lib.hid (ownsN_kept HO.out (World.grownBy_alloc wr (.cells #[.string x0] 9) none) (by by_cases h : (Value.slice A0 nL z0).ownBlock = none; exact .inl h; exact .inr h))
          have HOWN := Lib.hid (show (wr.alloc (.cells #[.string x0] 9)).ownsRow (w.heap.size + 1) 9 1 (.slice A0 nL z0) nL (strRow L) by have := HAL.out; unfold OwnsN at this; rwa [hnL] at this)
          have HONE := Lib.hid (show ∀ u ∈ [Value.string x0], u.oneCell' = true from fun u hu => by obtain rfl : u = Value.string x0 := (by simpa using hu); rfl)
          have HM63 := Lib.hid (show nL + 1 ≤ maxLen by unfold maxLen; have := HL16.out; omega)
          have HM16 := Lib.hid (show (nL + 1) * 16 ≤ 140737488355328 by have := HL16.out; omega)
          have HBAS := Lib.hid (show w.heap.size + 1 ≤ (wr.alloc (.cells #[.string x0] 9)).heap.size by have := HSZ.out; simp; omega)
          have HBX := Lib.hid (balloc (Below.refl _ wr) (.cells #[.string x0] 9))
          clear hm hlt hnL ho hbl e0
          cases x2 with
          | false =>
            have HV := Lib.hid (show selF defP m.f ++ selG defP (m.g.take (i + 1)) = L by rw [HN1.out, show defP false x1 = false from rfl]; rfl)
            go_wp2_with fail
            go_roundw
            case rel => exact ⟨i + 1, HLT.out, by go_num, by rw [HV.out]; exact HO.out, HI.out, HB.out, HSZ.out⟩
            case measure => have := HLT.out; simp [intOf]; omega
          | true =>
            by_cases hx1 : x1 = 1
            case pos =>
              subst hx1
              have HV := Lib.hid (show selF defP m.f ++ selG defP (m.g.take (i + 1)) = L by rw [HN1.out, show defP true 1 = false from rfl]; rfl)
              go_wp2_with fail
              go_roundw
              case rel => exact ⟨i + 1, HLT.out, by go_num, by rw [HV.out]; exact HO.out, HI.out, HB.out, HSZ.out⟩
              case measure => have := HLT.out; simp [intOf]; omega
            have n1 : (x1 == 1) = false := by simpa using hx1
            have HV := Lib.hid (show selF defP m.f ++ selG defP (m.g.take (i + 1)) = L ++ [x0] by rw [HN1.out, show defP true x1 = true by unfold defP; rw [n1]; rfl]; rfl)
            go_wp2_with (at_builtin; go_loud (refine wpList_append_own_at _ rfl _ _ 49 rfl (w.heap.size + 1) 9 i0 (.string ⟨#[]⟩) 1 16 Try.underlying49 HII.out.1 HII.out.2.1 HII.out.2.2.1 HII.out.2.2.2 rfl (by omega) (.slice A0 nL z0) nL (strRow L) rfl HOWN.out ⟨wr.heap.size, 0, none⟩ 1 1 [.string x0] rfl rfl (cell_one_new _ _ _) HONE.out HM63.out HM16.out HBAS.out ?_; intro v' w4 hown hgrow hnil hat))
            have HG := Lib.hid hgrow
            have HOW := Lib.hid hown
            clear hgrow hown hnil hat
            go_wp2_with fail
            have HKB := Lib.hid ((HG.out.block w.heap.size (by have := HSZ.out; simp; omega) (fun e => by have := (HO.out.block _ e.symm).1; omega)).trans ((HBX.out.block _ (Array.getElem?_eq_some_iff.1 HI.out).1).trans HI.out))
            have HBB := Lib.hid (show Below w.heap.size w w4 from below_grown HG.out (bthen HB.out HBX.out).size (fun r e => by have := (HO.out.block _ e).1; omega) |> fun g => (bthen HB.out HBX.out).trans g)
            go_roundw
            case rel =>
              refine ⟨i + 1, HLT.out, by go_num, ?_, HKB.out, HBB.out, Nat.le_trans HBAS.out HG.out.size⟩
              rw [HV.out]
              unfold OwnsN
              rw [List.length_append, HNQ.out]
              simpa [strRow] using HOW.out
            case measure => have := HLT.out; simp [intOf]; omega
        · have hd : decide ((i : Int) < (ng : Int)) = false := by simp; omega
          have HF := Lib.hid (HAL0.out (by omega))
          subst hv0
          go_wp2_with fail
          go_ret
          exact ⟨_, rfl, by rw [HSM.out, ← HF.out]; exact HO.out.strs, HB.out⟩
set_option maxRecDepth 100000 in
set_option maxHeartbeats 8000000 in
theorem refWants_any (m : Md) (F G : Option Addr) (nf cf ng cg : Nat) (w : World) (hnf : m.f.length = nf) (hng : m.g.length = ng) (h16 : (nf + ng) * 16 ≤ 140737488355000) (hS : MdAt w (.slice F nf cf) (.slice G ng cg) m) :
    Calls Try.prog 31 #[.agg #[.slice F nf cf, .slice G ng cg]] w (NewNames (selM wantP m) w) := by
  have HS := Lib.hid hS
  have HNF := Lib.hid (show m.f.length ≤ nf ∧ nf ≤ m.f.length by omega)
  have HNG := Lib.hid (show m.g.length ≤ ng ∧ ng ≤ m.g.length by omega)
  have H16 := Lib.hid h16
  have HSM := Lib.hid (show selM wantP m = selF wantP m.f ++ selG wantP m.g from rfl)
  have f9 : (nf : Int) ≤ 9223372036854775807 := by omega
  have g9 : (ng : Int) ≤ 9223372036854775807 := by omega
  obtain ⟨i0, qi, qz0, qz1, qz2⟩ := str_inf
  have HII := Lib.hid (And.intro qi (And.intro qz0 (And.intro qz1 qz2)))
  clear hS hnf hng h16 qi qz0 qz1 qz2
  go_enter Try.func31, Try.ntmps31
  go_upto_region 1 with fail
  have HIN := Lib.hid (heap_alloc_new w (.cells #[.slice F nf cf, .slice G ng cg] 25))
  have HBW := Lib.hid (balloc (Below.refl _ w) (.cells #[.slice F nf cf, .slice G ng cg] 25))
  generalize w.alloc (.cells #[.slice F nf cf, .slice G ng cg] 25) = W0 at *
  go_wp2_with fail
  go_loopw [3, 4] (fun vv iv wr => ∃ i : Nat, i ≤ nf ∧ iv = .int .i64 i ∧ OwnsN wr (w.heap.size + 1) vv (selF wantP (m.f.take i)) ∧ wr.heap[w.heap.size]? = some (.cells #[.slice F nf cf, .slice G ng cg] 25 (0, 0)) ∧ Below w.heap.size w wr ∧ w.heap.size + 1 ≤ wr.heap.size) (fun _ iv _ => nf - (intOf iv).toNat)
  case atStart => exact ⟨0, Nat.zero_le _, rfl, ⟨rfl, .inl ⟨rfl, rfl⟩⟩, HIN.out, HBW.out, (Array.getElem?_eq_some_iff.1 HIN.out).1⟩
  case round =>
    obtain ⟨i, hi, rfl, ho, hin, hb, hsz⟩ := hrel
    have HL16 := Lib.hid (show ((selF wantP (m.f.take i)).length + 1) * 16 ≤ 140737488355016 by
      have h1 := selF_len wantP (m.f.take i)
      have h2 := selG_len wantP m.g
      rw [List.length_take] at h1
      have := HNF.out
      have := HNG.out
      have := H16.out
      omega)
    have HX := Lib.hid (fun (h : i < m.f.length) => (show selF wantP (m.f.take (i + 1)) = if (wantP (decide (0 < m.f[i].l.length)) m.f[i].b) = true then selF wantP (m.f.take i) ++ [m.f[i].s] else selF wantP (m.f.take i) from by exact selF_take (p := wantP) h))
    have HAL0 := Lib.hid (show i = nf → selF wantP (m.f.take i) = selF wantP m.f from fun h => by rw [List.take_of_length_le (by have := HNF.out; omega)])
    obtain ⟨L, hL⟩ : ∃ L, selF wantP (m.f.take i) = L := ⟨_, rfl⟩
    rw [hL] at ho HL16 HAL0
    simp only [hL] at HX
    have HO := Lib.hid ho
    have HI := Lib.hid hin
    have HB := Lib.hid hb
    have HSZ := Lib.hid hsz
    obtain ⟨A0, z0, hv0⟩ := ho.form
    have c0 := Lib.cell_of_heap hin 0
    have c1 := Lib.cell_of_heap hin 1
    simp only [List.getElem?_toArray, List.getElem?_cons_zero, List.getElem?_cons_succ] at c0 c1
    clear hin hb hsz hL
    by_cases hlt : i < nf
    · have hm : i < m.f.length := by have := HNF.out; omega
      obtain ⟨b1, off, hA, hbl, e0⟩ := RowOf.at_ HS.out.1 hm
      subst hA
      have HN1 := Lib.hid (HX.out hm)
      obtain ⟨g0, g1, g2, A3, z3, g3, -⟩ := FnAt.next _ _ _ _ _ hbl HB.out e0
      obtain ⟨x0, h0⟩ : ∃ z, m.f[i].s = z := ⟨_, rfl⟩
      obtain ⟨x1, h1⟩ : ∃ z, m.f[i].b = z := ⟨_, rfl⟩
      obtain ⟨x3, h3⟩ : ∃ z, m.f[i].l.length = z := ⟨_, rfl⟩
      rw [h0] at g0 HN1
      rw [h1] at g1 HN1
      rw [h3] at g3 HN1
      clear h0 h1 h3 g2
      obtain ⟨nL, hnL⟩ : ∃ n, L.length = n := ⟨_, rfl⟩
      rw [hnL] at hv0 HL16
      subst hv0
      have HNQ := Lib.hid hnL
      have r0 : (0 : Int) ≤ (i : Int) := Int.natCast_nonneg _
      have r1 : (i : Int) < (nf : Int) := by omega
      have HLT := Lib.hid hlt
      have HAL := Lib.hid (ownsN_kept HO.out (World.grownBy_alloc wr (.cells #[.string x0] 9) none) (by by_cases h : (Value.slice A0 nL z0).ownBlock = none; exact .inl h; exact .inr h))
      have HOWN := Lib.hid (show (wr.alloc (.cells #[.string x0] 9)).ownsRow (w.heap.size + 1) 9 1 (.slice A0 nL z0) nL (strRow L) by have := HAL.out; unfold OwnsN at this; rwa [hnL] at this)
      have HONE := Lib.hid (show ∀ u ∈ [Value.string x0], u.oneCell' = true from fun u hu => by obtain rfl : u = Value.string x0 := (by simpa using hu); rfl)
      have HM63 := Lib.hid (show nL + 1 ≤ maxLen by unfold maxLen; have := HL16.out; omega)
      have HM16 := Lib.hid (show (nL + 1) * 16 ≤ 140737488355328 by have := HL16.out; omega)
      have HBAS := Lib.hid (show w.heap.size + 1 ≤ (wr.alloc (.cells #[.string x0] 9)).heap.size by have := HSZ.out; simp; omega)
      have HBX := Lib.hid (balloc (Below.refl _ wr) (.cells #[.string x0] 9))
      clear hm hlt hnL ho hbl e0
      by_cases hx3 : x3 = 0
      case neg =>
        have t3 : (x3 == 0) = false := by simpa using hx3
        have t3' : ((x3 : Int) == 0) = false := by simp; omega
        have HV := Lib.hid (show selF wantP (m.f.take (i + 1)) = L by rw [HN1.out, show wantP (decide (0 < x3)) x1 = false by unfold wantP; rw [decide_eq_true (by omega)]; rfl]; rfl)
        go_wp2_with fail
        go_roundw
        case rel => exact ⟨i + 1, HLT.out, by go_num, by rw [HV.out]; exact HO.out, HI.out, HB.out, HSZ.out⟩
        case measure => have := HLT.out; simp [intOf]; omega
      subst hx3
      by_cases hx1 : x1 = 2
      case neg =>
        have n1 : (x1 == 2) = false := by simpa using hx1
        have HV := Lib.hid (show selF wantP (m.f.take (i + 1)) = L by rw [HN1.out, show wantP (decide (0 < 0)) x1 = false by unfold wantP; rw [n1]; rfl]; rfl)
        go_wp2_with fail
        go_roundw
        case rel => exact ⟨i + 1, HLT.out, by go_num, by rw [HV.out]; exact HO.out, HI.out, HB.out, HSZ.out⟩
        case measure => have := HLT.out; simp [intOf]; omega
      subst hx1
      have HV := Lib.hid (show selF wantP (m.f.take (i + 1)) = L ++ [x0] by rw [HN1.out, show wantP (decide (0 < 0)) 2 = true from rfl]; rfl)
      go_wp2_with (at_builtin; go_loud (refine wpList_append_own_at _ rfl _ _ 49 rfl (w.heap.size + 1) 9 i0 (.string ⟨#[]⟩) 1 16 Try.underlying49 HII.out.1 HII.out.2.1 HII.out.2.2.1 HII.out.2.2.2 rfl (by omega) (.slice A0 nL z0) nL (strRow L) rfl HOWN.out ⟨wr.heap.size, 0, none⟩ 1 1 [.string x0] rfl rfl (cell_one_new _ _ _) HONE.out HM63.out HM16.out HBAS.out ?_; intro v' w4 hown hgrow hnil hat))
      have HG := Lib.hid hgrow
      have HOW := Lib.hid hown
      clear hgrow hown hnil hat
      go_wp2_with fail
      have HKB := Lib.hid ((HG.out.block w.heap.size (by have := HSZ.out; simp; omega) (fun e => by have := (HO.out.block _ e.symm).1; omega)).trans ((HBX.out.block _ (Array.getElem?_eq_some_iff.1 HI.out).1).trans HI.out))
      have HBB := Lib.hid (show Below w.heap.size w w4 from below_grown HG.out (bthen HB.out HBX.out).size (fun r e => by have := (HO.out.block _ e).1; omega) |> fun g => (bthen HB.out HBX.out).trans g)
      go_roundw
      case rel =>
        refine ⟨i + 1, HLT.out, by go_num, ?_, HKB.out, HBB.out, Nat.le_trans HBAS.out HG.out.size⟩
        rw [HV.out]
        unfold OwnsN
        rw [List.length_append, HNQ.out]
        simpa [strRow] using HOW.out
      case measure => have := HLT.out; simp [intOf]; omega
    · have hd : decide ((i : Int) < (nf : Int)) = false := by simp; omega
      have HF := Lib.hid (HAL0.out (by omega))
      go_wp2_with fail
      clear c0 c1 hd
      go_loopw [3, 5] (fun vv iv wr => ∃ i : Nat, i ≤ ng ∧ iv = .int .i64 i ∧ OwnsN wr (w.heap.size + 1) vv (selF wantP m.f ++ selG wantP (m.g.take i)) ∧ wr.heap[w.heap.size]? = some (.cells #[.slice F nf cf, .slice G ng cg] 25 (0, 0)) ∧ Below w.heap.size w wr ∧ w.heap.size + 1 ≤ wr.heap.size) (fun _ iv _ => ng - (intOf iv).toNat)
      case atStart => exact ⟨0, Nat.zero_le _, rfl, by rw [List.take_zero, show selG wantP [] = [] from rfl, List.append_nil, ← HF.out]; exact HO.out, HI.out, HB.out, HSZ.out⟩
      case round =>
        obtain ⟨i, hi, rfl, ho, hin, hb, hsz⟩ := hrel
        have HL16 := Lib.hid (show ((selF wantP m.f ++ selG wantP (m.g.take i)).length + 1) * 16 ≤ 140737488355016 by
          have h1 := selF_len wantP m.f
          have h2 := selG_len wantP (m.g.take i)
          rw [List.length_take] at h2; rw [List.length_append]
          have := HNF.out
          have := HNG.out
          have := H16.out
          omega)
        have HX := Lib.hid (fun (h : i < m.g.length) => (show selF wantP m.f ++ selG wantP (m.g.take (i + 1)) = if (wantP m.g[i].h m.g[i].b) = true then selF wantP m.f ++ selG wantP (m.g.take i) ++ [m.g[i].s] else selF wantP m.f ++ selG wantP (m.g.take i) from by rw [selG_take (p := wantP) h]; split <;> simp))
        have HAL0 := Lib.hid (show i = ng → selF wantP m.f ++ selG wantP (m.g.take i) = selF wantP m.f ++ selG wantP m.g from fun h => by rw [List.take_of_length_le (by have := HNG.out; omega)])
        obtain ⟨L, hL⟩ : ∃ L, selF wantP m.f ++ selG wantP (m.g.take i) = L := ⟨_, rfl⟩
        rw [hL] at ho HL16 HAL0
        simp only [hL] at HX
        have HO := Lib.hid ho
        have HI := Lib.hid hin
        have HB := Lib.hid hb
        have HSZ := Lib.hid hsz
        obtain ⟨A0, z0, hv0⟩ := ho.form
        have c0 := Lib.cell_of_heap hin 0
        have c1 := Lib.cell_of_heap hin 1
        simp only [List.getElem?_toArray, List.getElem?_cons_zero, List.getElem?_cons_succ] at c0 c1
        clear hin hb hsz hL
        by_cases hlt : i < ng
        · have hm : i < m.g.length := by have := HNG.out; omega
          obtain ⟨b1, off, hA, hbl, e0⟩ := RowOf.at_ HS.out.2 hm
          subst hA
          have HN1 := Lib.hid (HX.out hm)
          obtain ⟨g0, g1, g2, g3⟩ := GlAt.next _ _ _ _ _ hbl HB.out e0
          obtain ⟨x0, h0⟩ : ∃ z, m.g[i].s = z := ⟨_, rfl⟩
          obtain ⟨x1, h1⟩ : ∃ z, m.g[i].b = z := ⟨_, rfl⟩
          obtain ⟨x2, h2⟩ : ∃ z, m.g[i].h = z := ⟨_, rfl⟩
          rw [h0] at g0 HN1
          rw [h1] at g1 HN1
          rw [h2] at g2 HN1
          clear h0 h1 h2 g3
          obtain ⟨nL, hnL⟩ : ∃ n, L.length = n := ⟨_, rfl⟩
          rw [hnL] at hv0 HL16
          subst hv0
          have HNQ := Lib.hid hnL
          have r0 : (0 : Int) ≤ (i : Int) := Int.natCast_nonneg _
          have r1 : (i : Int) < (ng : Int) := by omega
          have HLT := Lib.hid hlt
          have HAL := Lib.hid (ownsN_kept HO.out (World.grownBy_alloc wr (.cells #[.string x0] 9) none) (by by_cases h : (Value.slice A0 nL z0).ownBlock = none; exact .inl h; exact .inr h))
          have HOWN := Lib.hid (show (wr.alloc (.cells #[.string x0] 9)).ownsRow (w.heap.size + 1) 9 1 (.slice A0 nL z0) nL (strRow L) by have := HAL.out; unfold OwnsN at this; rwa [hnL] at this)
          have HONE := Lib.hid (show ∀ u ∈ [Value.string x0], u.oneCell' = true from fun u hu => by obtain rfl : u = Value.string x0 := (by simpa using hu); rfl)
          have HM63 := Lib.hid (show nL + 1 ≤ maxLen by unfold maxLen; have := HL16.out; omega)
          have HM16 := Lib.hid (show (nL + 1) * 16 ≤ 140737488355328 by have := HL16.out; omega)
          have HBAS := Lib.hid (show w.heap.size + 1 ≤ (wr.alloc (.cells #[.string x0] 9)).heap.size by have := HSZ.out; simp; omega)
          have HBX := Lib.hid (balloc (Below.refl _ wr) (.cells #[.string x0] 9))
          clear hm hlt hnL ho hbl e0
          cases x2 with
          | true =>
            have HV := Lib.hid (show selF wantP m.f ++ selG wantP (m.g.take (i + 1)) = L by rw [HN1.out, show wantP true x1 = false from rfl]; rfl)
            go_wp2_with fail
            go_roundw
            case rel => exact ⟨i + 1, HLT.out, by go_num, by rw [HV.out]; exact HO.out, HI.out, HB.out, HSZ.out⟩
            case measure => have := HLT.out; simp [intOf]; omega
          | false =>
            by_cases hx1 : x1 = 2
            case neg =>
              have n1 : (x1 == 2) = false := by simpa using hx1
              have HV := Lib.hid (show selF wantP m.f ++ selG wantP (m.g.take (i + 1)) = L by rw [HN1.out, show wantP false x1 = false by unfold wantP; rw [n1]; rfl]; rfl)
              go_wp2_with fail
              go_roundw
              case rel => exact ⟨i + 1, HLT.out, by go_num, by rw [HV.out]; exact HO.out, HI.out, HB.out, HSZ.out⟩
              case measure => have := HLT.out; simp [intOf]; omega
            subst hx1
            have HV := Lib.hid (show selF wantP m.f ++ selG wantP (m.g.take (i + 1)) = L ++ [x0] by rw [HN1.out, show wantP false 2 = true from rfl]; rfl)
            go_wp2_with (at_builtin; go_loud (refine wpList_append_own_at _ rfl _ _ 49 rfl (w.heap.size + 1) 9 i0 (.string ⟨#[]⟩) 1 16 Try.underlying49 HII.out.1 HII.out.2.1 HII.out.2.2.1 HII.out.2.2.2 rfl (by omega) (.slice A0 nL z0) nL (strRow L) rfl HOWN.out ⟨wr.heap.size, 0, none⟩ 1 1 [.string x0] rfl rfl (cell_one_new _ _ _) HONE.out HM63.out HM16.out HBAS.out ?_; intro v' w4 hown hgrow hnil hat))
            have HG := Lib.hid hgrow
            have HOW := Lib.hid hown
            clear hgrow hown hnil hat
            go_wp2_with fail
            have HKB := Lib.hid ((HG.out.block w.heap.size (by have := HSZ.out; simp; omega) (fun e => by have := (HO.out.block _ e.symm).1; omega)).trans ((HBX.out.block _ (Array.getElem?_eq_some_iff.1 HI.out).1).trans HI.out))
            have HBB := Lib.hid (show Below w.heap.size w w4 from below_grown HG.out (bthen HB.out HBX.out).size (fun r e => by have := (HO.out.block _ e).1; omega) |> fun g => (bthen HB.out HBX.out).trans g)
            go_roundw
            case rel =>
              refine ⟨i + 1, HLT.out, by go_num, ?_, HKB.out, HBB.out, Nat.le_trans HBAS.out HG.out.size⟩
              rw [HV.out]
              unfold OwnsN
              rw [List.length_append, HNQ.out]
              simpa [strRow] using HOW.out
            case measure => have := HLT.out; simp [intOf]; omega
        · have hd : decide ((i : Int) < (ng : Int)) = false := by simp; omega
          have HF := Lib.hid (HAL0.out (by omega))
          subst hv0
          go_wp2_with fail
          go_ret
          exact ⟨_, rfl, by rw [HSM.out, ← HF.out]; exact HO.out.strs, HB.out⟩
set_option maxRecDepth 100000 in
set_option maxHeartbeats 4000000 in
theorem refHas_any (xs : List ByteArray) (s : ByteArray) (A : Option Addr) (n c : Nat) (w : World) (hn : xs.length = n) (h9 : n ≤ 9223372036854775807) (hS : Strs w (.slice A n c) xs) :
    Calls Try.prog 36 #[.slice A n c, .string s] w fun e w' => e = .returned (.bool (xs.any fun x => x == s)) ∧ w = w' := by
  have HN := Lib.hid (show xs.length ≤ n ∧ n ≤ xs.length by omega)
  have HS := Lib.hid hS
  have n1 : (n : Int) ≤ 9223372036854775807 := by omega
  obtain ⟨V, hV⟩ : ∃ V, (xs.any fun x => x == s) = V := ⟨_, rfl⟩
  have HE := Lib.hid hV
  rw [hV]
  clear hV hS hn h9
  go_enter Try.func36, Try.ntmps36
  go_wp2_with fail
  go_loopw [5] (fun iv wr => ∃ i : Nat, i ≤ n ∧ iv = .int .i64 i ∧ (∀ t (ht : t < xs.length), t < i → (xs[t] == s) = false) ∧ w = wr) (fun iv _ => n - (intOf iv).toNat)
  case atStart => exact ⟨0, Nat.zero_le _, rfl, fun t _ h => by omega, rfl⟩
  case round =>
    obtain ⟨i, hi, rfl, hs, rfl⟩ := hrel
    have HT := Lib.hid hs
    clear hs
    by_cases hlt : i < n
    · have hm : i < xs.length := by have := HN.out; omega
      obtain ⟨b1, off, hA, hbl, e0⟩ := RowOf.at_ HS.out hm
      subst hA
      simp only [Nat.mul_one] at e0
      have HY := Lib.hid (show (xs[i] == s) = true → V = true from fun h => by rw [← HE.out]; exact List.any_eq_true.2 ⟨_, List.getElem_mem hm, h⟩)
      have HNX := Lib.hid (show (xs[i] == s) = false → ∀ t (ht : t < xs.length), t < i + 1 → (xs[t] == s) = false from fun h t ht hti => by
        by_cases e : t = i
        · subst e; exact h
        · exact HT.out t ht (by omega))
      obtain ⟨x, hx⟩ : ∃ x, xs[i] = x := ⟨_, rfl⟩
      rw [hx] at e0 HY HNX
      have hk0 : (0 : Int) ≤ (i : Int) := Int.natCast_nonneg _
      have hk1 : (i : Int) < (n : Int) := by omega
      have HLT := Lib.hid hlt
      clear hx hm hlt hbl
      cases hq : x == s with
      | true =>
        have h1 : (x.toList == s.toList) = true := by rw [← beq_toListBytes]; exact hq
        have HV := Lib.hid (HY.out hq)
        clear hq
        go_wp2_with fail
        go_ret
        exact ⟨by rw [HV.out]; rfl, rfl⟩
      | false =>
        have h1 : (x.toList == s.toList) = false := by rw [← beq_toListBytes]; exact hq
        have HV := Lib.hid (HNX.out hq)
        clear hq
        go_wp2_with fail
        go_roundw
        case rel => exact ⟨i + 1, HLT.out, by go_num, HV.out, trivial⟩
        case measure => have := HLT.out; simp [intOf]; omega
    · have hd : decide ((i : Int) < (n : Int)) = false := by simp; omega
      have HV := Lib.hid (show V = false by
        rw [← HE.out, List.any_eq_false]
        intro x hx
        obtain ⟨t, ht, rfl⟩ := List.getElem_of_mem hx
        have := HT.out t ht (by have := HN.out; omega)
        simp [this])
      go_wp2_with fail
      go_ret
      exact ⟨by rw [HV.out]; rfl, rfl⟩
end Go.Proofs.Ytcfniagmnkngfaa
