/- The reference of package ir: which names has a function; are two rows of names the same? IrFuncs. -/
import Derived.Test.YtcfniagmnkngfaaTA
import Derived.Test.YtcfniagmnkngfaaBL
namespace Go.Proofs.Ytcfniagmnkngfaa
open Go.RowKit

theorem grown_of {W W' : World} (h : Below W.heap.size W W') : W.grownBy W' none := ⟨h.os, h.tape, h.output, h.size, fun i hi _ => h.block i hi⟩
theorem insNames_app (l k : List In) : insNames (l ++ k) = insNames l ++ insNames k := by
  unfold insNames
  rw [List.filter_append, List.map_append]
theorem insNames_take {l : List In} {j : Nat} (hj : j < l.length) : insNames (l.take (j + 1)) = if hasB l[j].o = true then insNames (l.take j) ++ [l[j].s] else insNames (l.take j) := by
  rw [List.take_succ_eq_append_getElem hj, insNames_app]
  unfold insNames
  cases h : hasB l[j].o <;> simp [h]
theorem insNames_len (l : List In) : (insNames l).length ≤ l.length := by
  unfold insNames
  rw [List.length_map]
  exact List.length_filter_le _ _
def refK (l : List Bk) (k : Nat) : List ByteArray := ((l.take k).map fun b => insNames b.i).flatten
theorem refK_succ (l : List Bk) (k : Nat) (h : k < l.length) : refK l (k + 1) = refK l k ++ insNames l[k].i := by
  unfold refK
  rw [List.take_succ_eq_append_getElem h, List.map_append, List.flatten_append]
  simp
theorem refK_all (f : Fn) (k : Nat) (h : f.l.length ≤ k) : refK f.l k = refsL f := by
  unfold refK refsL
  rw [List.take_of_length_le h]
theorem refK_len (l : List Bk) (k : Nat) : (refK l k).length ≤ (((l.take k).map (·.i)).flatten).length := by
  unfold refK
  generalize l.take k = r
  induction r with
  | nil => simp
  | cons c r ih =>
    rw [List.map_cons, List.map_cons, List.flatten_cons, List.flatten_cons, List.length_append, List.length_append]
    have := insNames_len c.i
    omega
theorem ref_room {f : Fn} {k n : Nat} (hk : k < f.l.length) : (refK f.l k ++ insNames (f.l[k].i.take n)).length ≤ (insF f).length := by
  have h1 := refK_len f.l k
  have h2 := insNames_len (f.l[k].i.take n)
  have h3 : (f.l[k].i.take n).length ≤ f.l[k].i.length := by rw [List.length_take]; omega
  have h4 : (((f.l.take (k + 1)).map (·.i)).flatten).length ≤ (insF f).length := by
    unfold insF
    rw [show (f.l.map (·.i)).flatten = ((f.l.take (k + 1)).map (·.i)).flatten ++ ((f.l.drop (k + 1)).map (·.i)).flatten by rw [← List.flatten_append, ← List.map_append, List.take_append_drop], List.length_append]
    omega
  rw [List.take_succ_eq_append_getElem hk, List.map_append, List.flatten_append, List.length_append] at h4
  simp only [List.map_cons, List.map_nil, List.flatten_cons, List.flatten_nil, List.append_nil] at h4
  rw [List.length_append]
  omega
set_option maxRecDepth 100000 in
set_option maxHeartbeats 8000000 in
theorem refRefs_any (f : Fn) (C : Option Addr) (nl ca : Nat) (w : World) (hna : f.l.length = nl) (hok : FnOk f) (hcnt : (insF f).length * 16 ≤ 140737488355000) (hS : Blocks w (.slice C nl ca) f.l) :
    Calls Try.prog 55 #[.agg #[.string f.s, .int .i64 f.b, .int .i64 f.p, .slice C nl ca]] w (NewNames (refsL f) w) := by
  have HS := Lib.hid hS
  have HOK := Lib.hid hok
  have HNL := Lib.hid (show f.l.length ≤ nl ∧ nl ≤ f.l.length by omega)
  have HRM := Lib.hid (fun (k n : Nat) (hk : k < f.l.length) => (show (refK f.l k ++ insNames (f.l[k].i.take n)).length * 16 ≤ 140737488355000 from by have := ref_room (n := n) hk; omega))
  have HALL := Lib.hid (refK_all f)
  have n9 : (nl : Int) ≤ 9223372036854775807 := by have := hok.2.1; omega
  obtain ⟨s, b, p, l⟩ := f
  simp only at HS HNL HRM HALL ⊢
  obtain ⟨i0, qi, qz0, qz1, qz2⟩ := str_info0
  have HII := Lib.hid (And.intro qi (And.intro qz0 (And.intro qz1 qz2)))
  clear hS hok hcnt hna qi qz0 qz1 qz2
  go_enter Try.func55, Try.ntmps55
  go_upto_region 1 with fail
  have HIN := Lib.hid (heap_alloc_new w (.cells #[.string s, .int .i64 b, .int .i64 p, .slice C nl ca] 78))
  have HBW := Lib.hid (balloc (Below.refl _ w) (.cells #[.string s, .int .i64 b, .int .i64 p, .slice C nl ca] 78))
  generalize w.alloc (.cells #[.string s, .int .i64 b, .int .i64 p, .slice C nl ca] 78) = W0 at *
  go_wp2_with fail
  go_loopw [3, 4] (fun vv iv wr => ∃ k : Nat, k ≤ nl ∧ iv = .int .i64 k ∧ OwnsN wr (w.heap.size + 1) vv (refK l k) ∧ wr.heap[w.heap.size]? = some (.cells #[.string s, .int .i64 b, .int .i64 p, .slice C nl ca] 78 (0, 0)) ∧ Below w.heap.size w wr ∧ w.heap.size + 1 ≤ wr.heap.size) (fun _ iv _ => nl - (intOf iv).toNat)
  case atStart => exact ⟨0, Nat.zero_le _, rfl, ⟨rfl, .inl ⟨rfl, rfl⟩⟩, HIN.out, HBW.out, (Array.getElem?_eq_some_iff.1 HIN.out).1⟩
  case round =>
    obtain ⟨k, hk, rfl, ho, hin, hb, hsz⟩ := hrel
    have HO := Lib.hid ho
    have HI := Lib.hid hin
    have HB := Lib.hid hb
    have HSZ := Lib.hid hsz
    have c3 := Lib.cell_of_heap hin 3
    simp only [List.getElem?_toArray, List.getElem?_cons_zero, List.getElem?_cons_succ] at c3
    clear ho hin hb hsz
    by_cases hlk : k < nl
    · have hkm : k < l.length := by have := HNL.out; omega
      obtain ⟨b1, off, hA, hbl, e0⟩ := RowOf.at_ HS.out hkm
      subst hA
      obtain ⟨-, ⟨A3, z3, g1, hins⟩, -⟩ := id e0
      have HG1 := Lib.hid (fun (U : World) (hU : Below w.heap.size w U) => (cellNext hbl hU _).trans g1)
      have HINS := Lib.hid hins
      have HSK := Lib.hid (refK_succ l k hkm)
      have HR2 := Lib.hid (fun (n : Nat) => HRM.out k n hkm)
      have hbo := (HOK.out.2.2 l[k] (List.getElem_mem hkm)).1
      obtain ⟨bi, hbi⟩ : ∃ x, l[k].i = x := ⟨_, rfl⟩
      rw [hbi] at HG1 HINS HSK hbo
      simp only [hbi] at HR2
      obtain ⟨ni, hni⟩ : ∃ n, bi.length = n := ⟨_, rfl⟩
      have HNI := Lib.hid (show bi.length ≤ ni ∧ ni ≤ bi.length by omega)
      rw [hni] at HG1 HINS hbo
      have q0 : (0 : Int) ≤ (k : Int) := Int.natCast_nonneg _
      have q1 : (k : Int) < (nl : Int) := by omega
      have i9 : (ni : Int) ≤ 9223372036854775807 := by omega
      have HLK := Lib.hid hlk
      clear hbi hkm e0 hins g1 hni hlk hbo hbl
      go_wp2_with fail
      clear c3
      go_loopw [3, 5] (fun vv iv wr => ∃ n : Nat, n ≤ ni ∧ iv = .int .i64 n ∧ OwnsN wr (w.heap.size + 1) vv (refK l k ++ insNames (bi.take n)) ∧ wr.heap[w.heap.size]? = some (.cells #[.string s, .int .i64 b, .int .i64 p, .slice (some ⟨b1, off, none⟩) nl ca] 78 (0, 0)) ∧ Below w.heap.size w wr ∧ w.heap.size + 1 ≤ wr.heap.size) (fun _ iv _ => ni - (intOf iv).toNat)
      case atStart => exact ⟨0, Nat.zero_le _, rfl, by rw [List.take_zero, show insNames [] = [] from rfl, List.append_nil]; exact HO.out, HI.out, HB.out, HSZ.out⟩
      case round =>
        obtain ⟨n, hn, rfl, ho, hin, hb, hsz⟩ := hrel
        have HL16 := Lib.hid (HR2.out (n + 1))
        have HX0 := Lib.hid (show refK l k ++ insNames (bi.take ni) = refK l (k + 1) by rw [HSK.out, List.take_of_length_le (by have := HNI.out; omega)])
        have HX := Lib.hid (fun (hn : n < bi.length) => insNames_take hn)
        obtain ⟨L, hL⟩ : ∃ L, refK l k ++ insNames (bi.take n) = L := ⟨_, rfl⟩
        have HLQ := Lib.hid hL
        rw [hL] at ho
        have HO2 := Lib.hid ho
        have HI2 := Lib.hid hin
        have HB2 := Lib.hid hb
        have HSZ2 := Lib.hid hsz
        obtain ⟨A0, z0, hv0⟩ := ho.form
        have c3 := Lib.cell_of_heap hin 3
        simp only [List.getElem?_toArray, List.getElem?_cons_zero, List.getElem?_cons_succ] at c3
        have g1 := HG1.out _ hb
        clear hin hb hsz
        by_cases hln : n < ni
        · have hnm : n < bi.length := by have := HNI.out; omega
          obtain ⟨b2, off2, hA2, hbl2, e2⟩ := RowOf.at_ HINS.out hnm
          subst hA2
          obtain ⟨p0, p1, p2, p3, p4, A5, z5, p5, -⟩ := InAt.next _ _ _ _ _ hbl2 HB2.out e2
          have HN1 := Lib.hid (HX.out hnm)
          obtain ⟨⟨y0, y1, y2, y3, y4, yl⟩, hy⟩ : ∃ y, bi[n] = y := ⟨_, rfl⟩
          rw [hy] at p0 p1 p2 p3 p4 p5 HN1
          simp only at p0 p1 p2 p3 p4 p5 HN1
          obtain ⟨y5, hy5⟩ : ∃ n, yl.length = n := ⟨_, rfl⟩
          rw [hy5] at p5
          have HNM := Lib.hid (fun (U : World) => refNamed_any y0 y1 y2 y3 y4 (.slice A5 y5 z5) U)
          have r0 : (0 : Int) ≤ (n : Int) := Int.natCast_nonneg _
          have r1 : (n : Int) < (ni : Int) := by omega
          have HLN := Lib.hid hln
          obtain ⟨nL, hnL⟩ : ∃ n, L.length = n := ⟨_, rfl⟩
          rw [hnL] at hv0
          subst hv0
          have HNQ := Lib.hid hnL
          have HP4 := Lib.hid (fun (U : World) (hU : Below w.heap.size w U) => (show U.cell? ⟨b2, off2 + n * 6 + 4, none⟩ = some (.string y4) from by
            have h := (cellNext hbl2 hU (off2 + n * 6 + 4)).trans e2.2.2.2.2.1
            rw [hy] at h
            exact h))
          clear e2 hbl2 ho
          clear hy hy5 hnm hln hnL hL
          go_wp2_with fail
          refine (HNM.out _).mono ?_
          rintro r w3 ⟨rfl, hb3⟩
          have HB3 := Lib.hid (bthen HB2.out hb3)
          have HI3 := Lib.hid ((hb3.block _ (Array.getElem?_eq_some_iff.1 HI2.out).1).trans HI2.out)
          have HO3 := Lib.hid (show OwnsN w3 (w.heap.size + 1) (.slice A0 nL z0) L from ownsN_kept HO2.out (grown_of hb3) (by by_cases h : (Value.slice A0 nL z0).ownBlock = none; exact .inl h; exact .inr h))
          have HSZ3 := Lib.hid (Nat.le_trans HSZ2.out hb3.size)
          clear hb3 c3 g1 p0 p1 p2 p3 p4 p5
          cases hh : hasB y0 with
          | false =>
            have HV := Lib.hid (show refK l k ++ insNames (bi.take (n + 1)) = L by rw [HN1.out, hh, ← HLQ.out]; rfl)
            clear hh
            go_wp2_with fail
            go_roundw
            case rel => exact ⟨n + 1, HLN.out, by go_num, by rw [HV.out]; exact HO3.out, HI3.out, HB3.out, HSZ3.out⟩
            case measure => have := HLN.out; simp [intOf]; omega
          | true =>
            have HV := Lib.hid (show refK l k ++ insNames (bi.take (n + 1)) = L ++ [y4] by rw [HN1.out, hh, ← HLQ.out]; simp)
            rw [HV.out, List.length_append, HNQ.out] at HL16
            clear hh
            have c3 := Lib.cell_of_heap HI3.out 3
            simp only [List.getElem?_toArray, List.getElem?_cons_zero, List.getElem?_cons_succ] at c3
            have g1 := HG1.out _ HB3.out
            have p4 := HP4.out _ HB3.out
            have HAL := Lib.hid (ownsN_kept HO3.out (World.grownBy_alloc w3 (.cells #[.string y4] 9) none) (by by_cases h : (Value.slice A0 nL z0).ownBlock = none; exact .inl h; exact .inr h))
            have HOWN := Lib.hid (show (w3.alloc (.cells #[.string y4] 9)).ownsRow (w.heap.size + 1) 9 1 (.slice A0 nL z0) nL (strRow L) by have := HAL.out; unfold OwnsN at this; rwa [HNQ.out] at this)
            have HONE := Lib.hid (show ∀ u ∈ [Value.string y4], u.oneCell' = true from fun u hu => by obtain rfl : u = Value.string y4 := (by simpa using hu); rfl)
            have HM63 := Lib.hid (show nL + 1 ≤ maxLen by unfold maxLen; have := HL16.out; simp at this; omega)
            have HM16 := Lib.hid (show (nL + 1) * 16 ≤ 140737488355328 by have := HL16.out; simp at this; omega)
            have HBAS := Lib.hid (show w.heap.size + 1 ≤ (w3.alloc (.cells #[.string y4] 9)).heap.size by have := HSZ3.out; simp; omega)
            have HBX := Lib.hid (balloc (Below.refl _ w3) (.cells #[.string y4] 9))
            go_wp2_with (at_builtin; go_loud (refine wpList_append_own_at _ rfl _ _ 49 rfl (w.heap.size + 1) 9 i0 (.string ⟨#[]⟩) 1 16 Try.underlying49 HII.out.1 HII.out.2.1 HII.out.2.2.1 HII.out.2.2.2 rfl (by omega) (.slice A0 nL z0) nL (strRow L) rfl HOWN.out ⟨w3.heap.size, 0, none⟩ 1 1 [.string y4] rfl rfl (cell_one_new _ _ _) HONE.out HM63.out HM16.out HBAS.out ?_; intro v' w4 hown hgrow hnil hat))
            have HG := Lib.hid hgrow
            have HOW := Lib.hid hown
            clear hgrow hown hnil hat c3 g1 p4
            go_wp2_with fail
            have HKB := Lib.hid ((HG.out.block w.heap.size (by have := HSZ3.out; simp; omega) (fun e => by have := (HO3.out.block _ e.symm).1; omega)).trans ((HBX.out.block _ (Array.getElem?_eq_some_iff.1 HI3.out).1).trans HI3.out))
            have HBB := Lib.hid (show Below w.heap.size w w4 from below_grown HG.out (bthen HB3.out HBX.out).size (fun r e => by have := (HO3.out.block _ e).1; omega) |> fun g => (bthen HB3.out HBX.out).trans g)
            go_roundw
            case rel =>
              refine ⟨n + 1, HLN.out, by go_num, ?_, HKB.out, HBB.out, Nat.le_trans HBAS.out HG.out.size⟩
              rw [HV.out]
              unfold OwnsN
              rw [List.length_append, HNQ.out]
              simpa [strRow] using HOW.out
            case measure => have := HLN.out; simp [intOf]; omega
        · have hd : decide ((n : Int) < (ni : Int)) = false := by simp; omega
          obtain rfl : n = ni := by omega
          have HV := Lib.hid (show L = refK l (k + 1) by rw [← HLQ.out]; exact HX0.out)
          go_wp2_with fail
          go_roundw
          case rel => exact ⟨k + 1, HLK.out, by go_num, by rw [← HV.out]; exact HO2.out, HI2.out, HB2.out, HSZ2.out⟩
          case measure => have := HLK.out; simp [intOf]; omega
    · have hd : decide ((k : Int) < (nl : Int)) = false := by simp; omega
      have HV := Lib.hid (HALL.out k (by have := HNL.out; omega))
      obtain ⟨A0, z0, hv0⟩ := HO.out.form
      subst hv0
      go_wp2_with fail
      go_ret
      exact ⟨_, rfl, by rw [← HV.out]; exact HO.out.strs, HB.out⟩
set_option maxRecDepth 100000 in
set_option maxHeartbeats 8000000 in
theorem refStrings_any (xs ys : List ByteArray) (A A' : Option Addr) (n n' c c' : Nat) (w : World) (hn : xs.length = n) (hn' : ys.length = n') (h9 : n ≤ 9223372036854775807) (hS : Strs w (.slice A n c) xs) (hS' : Strs w (.slice A' n' c') ys) :
    Calls Try.prog 27 #[.slice A n c, .slice A' n' c'] w fun e w' => e = .returned (.bool (decide (xs = ys))) ∧ Below w.heap.size w w' := by
  have HN := Lib.hid (show xs.length ≤ n ∧ n ≤ xs.length by omega)
  have HN' := Lib.hid (show ys.length ≤ n' ∧ n' ≤ ys.length by omega)
  have HS := Lib.hid hS
  have HS' := Lib.hid hS'
  have n1 : (n : Int) ≤ 9223372036854775807 := by omega
  obtain ⟨V, hV⟩ : ∃ V, decide (xs = ys) = V := ⟨_, rfl⟩
  have HE := Lib.hid hV
  rw [hV]
  clear hV hS hS' hn hn' h9
  go_enter Try.func27, Try.ntmps27
  by_cases hl : n = n'
  case neg =>
    have t : ((n : Int) == (n' : Int)) = false := by simp; omega
    have HV := Lib.hid (show V = false by
      rw [← HE.out]
      exact decide_eq_false fun e => by
        subst e
        have := HN.out
        have := HN'.out
        omega)
    go_wp2_with fail
    go_ret
    exact ⟨by rw [HV.out]; rfl, Below.refl _ _⟩
  subst hl
  go_wp2_with fail
  go_loopw [5] (fun iv wr => ∃ i : Nat, i ≤ n ∧ iv = .int .i64 i ∧ xs.take i = ys.take i ∧ Below w.heap.size w wr) (fun iv _ => n - (intOf iv).toNat)
  case atStart => exact ⟨0, Nat.zero_le _, rfl, by simp, Below.refl _ _⟩
  case round =>
    obtain ⟨i, hi, rfl, hs, hb⟩ := hrel
    have HT := Lib.hid hs
    have HB := Lib.hid hb
    clear hs
    by_cases hlt : i < n
    · have hm : i < xs.length := by have := HN.out; omega
      have hk : i < ys.length := by have := HN'.out; omega
      obtain ⟨b1, off, hA, hbl, e0⟩ := RowOf.at_ (Strs.next HS.out hb) hm
      obtain ⟨b2, off2, hA2, hbl2, e2⟩ := RowOf.at_ (Strs.next HS'.out hb) hk
      subst hA hA2
      simp only [Nat.mul_one] at e0 e2
      have HNX := Lib.hid (show xs[i] = ys[i] → xs.take (i + 1) = ys.take (i + 1) from fun h => by
        rw [List.take_succ_eq_append_getElem hm, List.take_succ_eq_append_getElem hk, HT.out, h])
      have HNO := Lib.hid (show xs[i] ≠ ys[i] → V = false from fun h => by rw [← HE.out]; exact decide_eq_false (fun e => h (by subst e; rfl)))
      obtain ⟨x, hx⟩ : ∃ x, xs[i] = x := ⟨_, rfl⟩
      obtain ⟨y, hy⟩ : ∃ y, ys[i] = y := ⟨_, rfl⟩
      rw [hx] at e0 HNX HNO
      rw [hy] at e2 HNX HNO
      have hk0 : (0 : Int) ≤ (i : Int) := Int.natCast_nonneg _
      have hk1 : (i : Int) < (n : Int) := by omega
      have HLT := Lib.hid hlt
      clear hx hy hm hk hlt hb
      go_upto_region 6 with fail
      cases hq : x == y with
      | true =>
        have h1 : (x.toList == y.toList) = true := by rw [← beq_toListBytes]; exact hq
        have HZ := Lib.hid (HNX.out ((jba_beq _ _).1 hq))
        clear hq
        go_quiet (fail)
        go_wp2_with fail
        go_roundw
        case rel => exact ⟨i + 1, HLT.out, by go_num, HZ.out, below_drewN HB.out _⟩
        case measure => have := HLT.out; simp [intOf]; omega
      | false =>
        have h1 : (x.toList == y.toList) = false := by rw [← beq_toListBytes]; exact hq
        have HZ := Lib.hid (HNO.out (fun e => by rw [e, jba_refl] at hq; cases hq))
        clear hq
        go_quiet (fail)
        go_wp2_with fail
        go_ret
        exact ⟨by rw [HZ.out]; rfl, below_drewN HB.out _⟩
    · have hd : decide ((i : Int) < (n : Int)) = false := by simp; omega
      have HV := Lib.hid (show V = true by
        rw [← HE.out]
        have h := HT.out
        rw [List.take_of_length_le (by have := HN.out; omega), List.take_of_length_le (by have := HN'.out; omega)] at h
        exact decide_eq_true h)
      go_wp2_with fail
      go_ret
      exact ⟨by rw [HV.out]; rfl, HB.out⟩
end Go.Proofs.Ytcfniagmnkngfaa
