/- Package elf: May. -/
import Derived.Test.YtdlbhkdjcegbfaaF3
namespace Go.Proofs.Ytdlbhkdjcegbfaa
open Go.RowKit

def IdxPost (l : List Sg) (e : Int) (w : World) (ee : Ending) (w' : World) : Prop := ∃ i : Int, ee = .returned (.int .i64 i) ∧ decide (0 ≤ i) = beginB l e ∧ i ≤ 1000000 ∧ -1 ≤ i ∧ Below w.heap.size w w'
set_option maxRecDepth 100000 in
set_option maxHeartbeats 4000000 in
theorem idx_any (l : List Sg) (A : Option Addr) (nv cap bl : Nat) (e : Int) (w : World) (hS : Segs w (.slice A nv cap) l) (hn4 : nv ≤ 4) (hI : ∀ s ∈ l, SgIn s) (hB : ∀ s ∈ l, segB s = true) (he : w.cell? ⟨bl, 0, none⟩ = some (.int .u64 e)) :
    Calls Try.prog 173 #[.slice A nv cap, .func (.func 142) #[] #[.pointer (some ⟨bl, 0, none⟩)]] w (IdxPost l e w) := by
  have HS := Lib.hid hS
  have HI := Lib.hid hI
  have HBB := Lib.hid hB
  have HN := Lib.hid hS.len
  have HE := Lib.hid he
  have HBL := Lib.hid (World.block_lt_of_cell? w _ he)
  have n4 : (nv : Int) ≤ 4 := by omega
  clear hS hI hB he
  go_enter Try.func173, Try.ntmps173
  go_wp2_with fail
  go_loopw [8] (fun iv wr => ∃ i : Nat, i ≤ nv ∧ iv = .int .i64 i ∧ (l.take i).any (atB e) = false ∧ Below w.heap.size w wr) (fun iv _ => nv - (intOf iv).toNat)
  case atStart => exact ⟨0, Nat.zero_le _, rfl, by simp, Below.refl _ _⟩
  case round =>
    obtain ⟨i, hi, rfl, hg, hb⟩ := hrel
    have HB := Lib.hid hb
    have HG := Lib.hid hg
    clear hb hg
    by_cases hlt : i < nv
    · have hil : i < l.length := by have := HN.out; omega
      obtain ⟨b, off, hA, c0, c1, c2, c3⟩ := (HS.out.next HB.out).at_ hil
      subst hA
      have hsg := HI.out l[i] (List.getElem_mem hil)
      have hsb := HBB.out l[i] (List.getElem_mem hil)
      have htk : (l.take (i + 1)).any (atB e) = ((l.take i).any (atB e) || atB e l[i]) := by rw [List.take_succ_eq_append_getElem hil, List.any_append, List.any_cons, List.any_nil, Bool.or_false]
      have hin : atB e l[i] = true → beginB l e = true := fun h => List.any_eq_true.2 ⟨_, List.getElem_mem hil, h⟩
      obtain ⟨g, hgg⟩ : ∃ g, l[i] = g := ⟨_, rfl⟩
      rw [hgg] at c0 c1 c2 c3 hsg hsb htk hin
      have HTK := Lib.hid htk
      have HIN := Lib.hid hin
      have hcl : wr.cell? ⟨bl, 0, none⟩ = some (.int .u64 e) := (HB.out.cell (p := ⟨bl, 0, none⟩) HBL.out).trans HE.out
      have HM := Lib.hid (beg1_any g hsg hsb e bl wr hcl)
      obtain ⟨a, p, d, z⟩ := g
      simp only at c0 c1 c2 c3
      unfold sgV at HM
      simp only at HM
      have HIL := Lib.hid hlt
      have i0 : (0 : Int) ≤ (i : Int) := by omega
      have i1 : (i : Int) < (nv : Int) := by omega
      clear hsg hsb hgg hil htk hin hcl
      cases hsb : atB e ⟨a, p, d, z⟩ with
      | false =>
        rw [hsb] at HM
        have HNX := Lib.hid (show (l.take (i + 1)).any (atB e) = false by rw [HTK.out, HG.out, hsb]; rfl)
        clear hsb
        go_wp2_with fail
        refine HM.out.mono ?_
        rintro e' w2 ⟨rfl, hb2⟩
        have HB2 := Lib.hid (bthen HB.out hb2)
        clear hb2
        go_wp2_with fail
        go_roundw
        case rel => exact ⟨i + 1, HIL.out, by go_num, HNX.out, HB2.out⟩
        case measure => have := HIL.out; simp [intOf]; omega
      | true =>
        rw [hsb] at HM
        have HF := Lib.hid (HIN.out hsb)
        clear hsb
        go_wp2_with fail
        refine HM.out.mono ?_
        rintro e' w2 ⟨rfl, hb2⟩
        have HB2 := Lib.hid (bthen HB.out hb2)
        clear hb2
        go_wp2_with fail
        go_ret
        exact ⟨(i : Int), rfl, by rw [HF.out]; exact decide_eq_true i0, by omega, by omega, HB2.out⟩
    · have HF := Lib.hid (show beginB l e = false by
        have h := HG.out
        rw [List.take_of_length_le (by have := HN.out; omega)] at h
        exact h)
      go_wp2_with fail
      go_ret
      exact ⟨-1, rfl, by rw [HF.out]; rfl, by omega, by omega, HB.out⟩
theorem begin_any (l : List Sg) (A : Option Addr) (nv cap : Nat) (e : Int) (w : World) (hS : Segs w (.slice A nv cap) l) (hn4 : nv ≤ 4) (hI : ∀ s ∈ l, SgIn s) (hB : ∀ s ∈ l, segB s = true) :
    Calls Try.prog 107 #[.slice A nv cap, .int .u64 e] w fun ee w' => ee = .returned (.bool (beginB l e)) ∧ Below w.heap.size w w' := by
  have HX := Lib.hid (idx_any l A nv cap w.heap.size e (w.alloc (.cells #[.int .u64 e] 22)) (hS.next (balloc (Below.refl _ _) _)) hn4 hI hB (by simp [go_sem]))
  have HC := Lib.hid (show Calls Try.prog 141 #[.slice A nv cap, .func (.func 142) #[] #[.pointer (some ⟨w.heap.size, 0, none⟩)]] (w.alloc (.cells #[.int .u64 e] 22)) fun ee w' => ee = .returned (.bool (beginB l e)) ∧ Below w.heap.size w w' from by
    clear hS hI hB hn4
    go_enter Try.func141, Try.ntmps141
    go_wp2_with fail
    refine HX.out.mono ?_
    rintro e' w2 ⟨i, rfl, hi, h1, h2, hb⟩
    have HB := Lib.hid (bthen (balloc (Below.refl _ w) _) hb)
    clear hb
    go_wp2_with fail
    go_ret
    exact ⟨rfl, HB.out⟩)
  clear hS hI hB hn4
  go_enter Try.func107, Try.ntmps107
  go_wp2_with fail
  refine HC.out.mono ?_
  rintro e' w2 ⟨rfl, hb⟩
  have HB := Lib.hid hb
  clear hb
  go_wp2_with fail
  go_ret
  exact ⟨rfl, HB.out⟩
/-- may an image be? -/
theorem may_any (l : List Sg) (e : Int) (A : Option Addr) (nv cap : Nat) (w : World) (hS : Segs w (.slice A nv cap) l) (hI : ∀ s ∈ l, SgIn s) :
    Calls Try.prog 54 #[.agg #[.int .u64 e, .slice A nv cap]] w fun ee w' => ee = .returned (.bool (mayB l e)) ∧ Below w.heap.size w w' := by
  have HG := Lib.hid (fun (W : World) (hb : Below w.heap.size w W) => esegs_any l A nv cap W (hS.next hb) hI)
  cases h : segsB l with
  | false =>
    rw [h] at HG
    have HE := Lib.hid (show mayB l e = false by unfold mayB; rw [h]; rfl)
    clear h hS hI
    go_enter Try.func54, Try.ntmps54
    go_wp2_with fail
    refine (HG.out _ (balloc (Below.refl _ _) _)).mono ?_
    rintro e' w2 ⟨rfl, hb⟩
    have HB := Lib.hid (bthen (balloc (Below.refl _ w) _) hb)
    clear hb
    go_wp2_with fail
    go_ret
    exact ⟨ret_bool HE.out.symm, HB.out⟩
  | true =>
    have h2 := h
    unfold segsB at h2
    simp only [Bool.and_eq_true, decide_eq_true_eq] at h2
    have hn := hS.len
    have HM := Lib.hid (fun (W : World) (hb : Below w.heap.size w W) => begin_any l A nv cap e W (hS.next hb) (by omega) hI (segs_all h2.2))
    rw [h] at HG
    have HE := Lib.hid (show mayB l e = beginB l e by unfold mayB; rw [h]; rfl)
    clear h h2 hn hS hI
    go_enter Try.func54, Try.ntmps54
    go_wp2_with fail
    refine (HG.out _ (balloc (Below.refl _ _) _)).mono ?_
    rintro e' w2 ⟨rfl, hb⟩
    have HB := Lib.hid (bthen (balloc (Below.refl _ w) _) hb)
    have k0 : w2.cell? ⟨w.heap.size, 0, none⟩ = some (.int .u64 e) := by
      rw [(bcell hb).1 _ _ (by simp)]; simp [go_sem]
    have k1 : w2.cell? ⟨w.heap.size, 1, none⟩ = some (.slice A nv cap) := by
      rw [(bcell hb).1 _ _ (by simp)]; simp [go_sem]
    clear hb
    go_wp2_with fail
    refine (HM.out _ HB.out).mono ?_
    rintro e' w3 ⟨rfl, hb⟩
    have HB := Lib.hid (bthen HB.out hb)
    clear hb k0 k1
    go_wp2_with fail
    go_ret
    exact ⟨ret_bool HE.out.symm, HB.out⟩
end Go.Proofs.Ytdlbhkdjcegbfaa
