/- Package elf: maySegs. -/
import Derived.Test.YtdlbhkdjcegbfaaF1
namespace Go.Proofs.Ytdlbhkdjcegbfaa
open Go.RowKit

theorem up_same (v : Int) (h0 : 0 ≤ v) (h1 : v ≤ 18446744073709551615) (w : World) : Calls Try.prog 102 #[.int .u64 v] w fun e w' => e = .returned (.int .u64 (upI v)) ∧ w' = w := (up_any v h0 h1 w).mono fun _ _ h => ⟨h.1, h.2.symm⟩
/-- may these stand behind one another, the first one not below e? -/
def goB : Int → List Sg → Bool
  | _, [] => true
  | e, g :: t => segB g && (decide (e ≤ g.a) && goB (g.a + upI g.z) t)
def segsB (l : List Sg) : Bool := decide (1 ≤ l.length ∧ l.length ≤ 4) && goB 0 l
theorem segB_parts {s : Sg} (h : segB s = true) : s.a % 256 = 0 ∧ s.a < 1099511627776 ∧ permB s.p = true ∧ 1 ≤ s.z ∧ s.z ≤ 16384 ∧ (s.d.size : Int) ≤ s.z := by
  unfold segB at h
  simp only [Bool.and_eq_true, decide_eq_true_eq] at h
  exact ⟨h.1.1, h.1.2, h.2.1, h.2.2.1, h.2.2.2.1, h.2.2.2.2⟩
theorem permB_parts {p : Int} (h : permB p = true) : 1 ≤ p ∧ p ≤ 7 ∧ p % 4 ≠ 3 := by
  unfold permB at h
  exact of_decide_eq_true h
set_option maxRecDepth 100000 in
set_option maxHeartbeats 4000000 in
theorem esegs_any (l : List Sg) (A : Option Addr) (nv cap : Nat) (w : World) (hS : Segs w (.slice A nv cap) l) (hI : ∀ s ∈ l, SgIn s) :
    Calls Try.prog 106 #[.slice A nv cap] w fun e w' => e = .returned (.bool (segsB l)) ∧ Below w.heap.size w w' := by
  have hn := hS.len
  have HS := Lib.hid hS
  have HI := Lib.hid hI
  have HN := Lib.hid hn
  by_cases h1 : nv < 1
  · have HE := Lib.hid (show segsB l = false by unfold segsB; rw [decide_eq_false (by omega)]; rfl)
    have t1 : decide ((nv : Int) < 1) = true := decide_eq_true (by omega)
    clear h1 hS hI hn
    go_enter Try.func106, Try.ntmps106
    go_wp2_with fail
    go_ret
    exact ⟨ret_bool (by rw [HE.out]), Below.refl _ _⟩
  by_cases h4 : 4 < nv
  · have HE := Lib.hid (show segsB l = false by unfold segsB; rw [decide_eq_false (by omega)]; rfl)
    have t1 : decide ((nv : Int) < 1) = false := decide_eq_false (by omega)
    have t2 : decide (4 < (nv : Int)) = true := decide_eq_true (by omega)
    clear h1 h4 hS hI hn
    go_enter Try.func106, Try.ntmps106
    go_wp2_with fail
    go_ret
    exact ⟨ret_bool (by rw [HE.out]), Below.refl _ _⟩
  have HE := Lib.hid (show segsB l = goB 0 l by unfold segsB; rw [decide_eq_true (by omega)]; rfl)
  have t1 : decide ((nv : Int) < 1) = false := decide_eq_false (by omega)
  have t2 : decide (4 < (nv : Int)) = false := decide_eq_false (by omega)
  have n4 : (nv : Int) ≤ 4 := by omega
  clear h1 h4 hS hI hn
  go_enter Try.func106, Try.ntmps106
  go_wp2_with fail
  go_loopw [3, 16] (fun ev iv wr => ∃ (i : Nat) (e : Int), i ≤ nv ∧ iv = .int .i64 i ∧ ev = .int .u64 e ∧ 0 ≤ e ∧ e ≤ 1099511660000 ∧ goB 0 l = goB e (l.drop i) ∧ Below w.heap.size w wr) (fun _ iv _ => nv - (intOf iv).toNat)
  case atStart => exact ⟨0, 0, Nat.zero_le _, rfl, rfl, by omega, by omega, rfl, Below.refl _ _⟩
  case round =>
    obtain ⟨i, e, hi, rfl, rfl, e0, e1, hg, hb⟩ := hrel
    have HB := Lib.hid hb
    have HG := Lib.hid hg
    clear hb hg
    by_cases hlt : i < nv
    · have hil : i < l.length := by have := HN.out; omega
      obtain ⟨b, off, hA, c0, c1, c2, c3⟩ := (HS.out.next HB.out).at_ hil
      subst hA
      have hd : l.drop i = l[i] :: l.drop (i + 1) := List.drop_eq_getElem_cons hil
      have hsg := HI.out l[i] (List.getElem_mem hil)
      obtain ⟨g, hgg⟩ : ∃ g, l[i] = g := ⟨_, rfl⟩
      rw [hgg] at c0 c1 c2 c3 hd hsg
      have HD := Lib.hid (show goB 0 l = (segB g && (decide (e ≤ g.a) && goB (g.a + upI g.z) (l.drop (i + 1)))) by rw [HG.out, hd]; rfl)
      have HSG := Lib.hid hsg
      have HM := Lib.hid (fun W => eseg_any g HSG.out W)
      obtain ⟨a, p, d, z⟩ := g
      simp only at c0 c1 c2 c3
      unfold sgV at HM
      simp only at HM
      have a0 : 0 ≤ a := HSG.out.1.1
      have a1 : a ≤ 18446744073709551615 := HSG.out.1.2
      have z0 : 0 ≤ z := HSG.out.2.2.1.1
      have z1 : z ≤ 18446744073709551615 := HSG.out.2.2.1.2
      have HIL := Lib.hid hlt
      have i0 : (0 : Int) ≤ (i : Int) := by omega
      have i1 : (i : Int) < (nv : Int) := by omega
      clear hd hsg hgg hil
      cases hsb : segB ⟨a, p, d, z⟩ with
      | false =>
        rw [hsb] at HM
        have HF := Lib.hid (show goB 0 l = false by rw [HD.out, hsb]; rfl)
        clear hsb
        go_wp2_with fail
        refine (HM.out _).mono ?_
        rintro e' w2 ⟨rfl, hb2⟩
        have HB2 := Lib.hid (bthen (balloc HB.out _) hb2)
        clear hb2
        go_wp2_with fail
        go_ret
        exact ⟨ret_bool (by rw [HE.out, HF.out]), HB2.out⟩
      | true =>
        obtain ⟨-, ga, -, -, gz, -⟩ := segB_parts hsb
        simp only at ga gz
        have HT := Lib.hid hsb
        rw [hsb] at HM
        clear hsb
        by_cases hae : a < e
        · have HF := Lib.hid (show goB 0 l = false by rw [HD.out, decide_eq_false (show ¬ e ≤ a by omega)]; simp)
          go_wp2_with fail
          refine (HM.out _).mono ?_
          rintro e' w2 ⟨rfl, hb2⟩
          have HB2 := Lib.hid (bthen (balloc HB.out _) hb2)
          have k0 : w2.cell? ⟨wr.heap.size, 0, none⟩ = some (.int .u64 a) := by
            rw [(bcell hb2).1 _ _ (by simp)]; simp [go_sem]
          clear hb2
          go_wp2_with fail
          go_ret
          exact ⟨ret_bool (by rw [HE.out, HF.out]), HB2.out⟩
        · have hup := upI_in z z0 (by omega)
          have HU := Lib.hid (fun W => up_same z z0 z1 W)
          have HNX := Lib.hid (show goB 0 l = goB (a + upI z) (l.drop (i + 1)) by rw [HD.out, HT.out, decide_eq_true (show e ≤ a by omega)]; rfl)
          obtain ⟨u, hu⟩ : ∃ u, upI z = u := ⟨_, rfl⟩
          rw [hu] at HU HNX hup
          have u0 : 0 ≤ u := by omega
          have u1 : u ≤ 16639 := by omega
          clear hup hu
          go_wp2_with fail
          refine (HM.out _).mono ?_
          rintro e' w2 ⟨rfl, hb2⟩
          have HB2 := Lib.hid (bthen (balloc HB.out _) hb2)
          have k0 : w2.cell? ⟨wr.heap.size, 0, none⟩ = some (.int .u64 a) := by
            rw [(bcell hb2).1 _ _ (by simp)]; simp [go_sem]
          have k3 : w2.cell? ⟨wr.heap.size, 3, none⟩ = some (.int .u64 z) := by
            rw [(bcell hb2).1 _ _ (by simp)]; simp [go_sem]
          clear hb2 c0 c1 c2 c3
          have hsum : IntKind.u64.wrap (a + u) = a + u := by rw [IntKind.wrap_u64]; omega
          go_wp2_with fail
          go_quiet ((go_at_call 102; exact Calls.quiet_of_same (HU.out _)))
          have HB3 := Lib.hid (bthen HB2.out (drewN_below w2 nq))
          clear k0 k3
          generalize w2.drewN nq = w3 at *
          go_wp2_with fail
          go_roundw
          case rel => exact ⟨i + 1, a + u, HIL.out, by go_num, rfl, by omega, by omega, HNX.out, HB3.out⟩
          case measure => have := HIL.out; simp [intOf]; omega
    · have HF := Lib.hid (show goB 0 l = true by rw [HG.out, List.drop_of_length_le (by have := HN.out; omega)]; rfl)
      go_wp2_with fail
      go_ret
      exact ⟨ret_bool (by rw [HE.out, HF.out]), HB.out⟩
end Go.Proofs.Ytdlbhkdjcegbfaa
