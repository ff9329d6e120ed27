/- Package elf's reference: up, May, Load. -/
import Derived.Test.YtpifndpbmjmglaaHF0
namespace Go.Proofs.Ytpifndpbmjmglaa
open Go.RowKit

theorem rup_any (v : Int) (_h0 : 0 ≤ v) (_h1 : v ≤ 18446744073709551615) (w : World) : Calls Try.prog 13 #[.int .u64 v] w fun e w' => e = .returned (.int .u64 (upI v)) ∧ w' = w := by
  obtain ⟨x, hx⟩ : ∃ x, IntKind.u64.wrap (v + 255) = x := ⟨_, rfl⟩
  have hx2 : x = (v + 255) % 18446744073709551616 := by rw [← hx, IntKind.wrap_u64]
  have x0 : 0 ≤ x ∧ x < 18446744073709551616 := by omega
  have t1 : Int.tdiv x 256 = x / 256 := Int.tdiv_eq_ediv_of_nonneg x0.1
  have t2 : IntKind.u64.wrap (x / 256) = x / 256 := by rw [IntKind.wrap_u64]; omega
  have t3 : IntKind.u64.wrap (x / 256 * 256) = x / 256 * 256 := by rw [IntKind.wrap_u64]; omega
  have HE := Lib.hid (show upI v = x / 256 * 256 by unfold upI; rw [hx2])
  clear x0 hx2
  go_enter Try.func13, Try.ntmps13
  go_wp2_with fail
  go_ret
  exact ⟨ret_int (by rw [HE.out]), rfl⟩
theorem goB_not {l : List Sg} {e : Int} {g : Sg} {t : List Sg} (h : goB 0 l = goB e (g :: t)) (hs : segB g = false) : goB 0 l = false := by
  rw [h]; unfold goB; rw [hs]; rfl
theorem any_take_succS {α : Type} (p : α → Bool) (l : List α) (i : Nat) (h : i < l.length) : (l.take (i + 1)).any p = ((l.take i).any p || p l[i]) := by
  rw [List.take_succ_eq_append_getElem h, List.any_append]
  simp
set_option maxRecDepth 100000 in
set_option maxHeartbeats 16000000 in
theorem rmay_any (l : List Sg) (e : Int) (A : Option Addr) (nv cap : Nat) (w : World) (hS : Segs w (.slice A nv cap) l) (hI : ∀ s ∈ l, SgIn s) :
    Calls Try.prog 11 #[.agg #[.int .u64 e, .slice A nv cap]] w fun ee w' => ee = .returned (.bool (mayB l e)) ∧ Below w.heap.size w w' := by
  have hn := hS.len
  have HS := Lib.hid hS
  have HI := Lib.hid hI
  have HN := Lib.hid hn
  have HB0 := Lib.hid (balloc (Below.refl w.heap.size w) (.cells #[.int .u64 e, .slice A nv cap] 25))
  have HX0 := Lib.hid (fun (U : World) (hU : Below (w.alloc (.cells #[.int .u64 e, .slice A nv cap] 25)).heap.size (w.alloc (.cells #[.int .u64 e, .slice A nv cap] 25)) U) => (show U.cell? ⟨w.heap.size, 0, none⟩ = some (.int .u64 e) ∧ U.cell? ⟨w.heap.size, 1, none⟩ = some (.slice A nv cap) from by
    have h := (hU.block w.heap.size (by simp)).trans (heap_alloc_new w _)
    exact ⟨Lib.cell_of_heap h 0, Lib.cell_of_heap h 1⟩))
  by_cases h1 : nv < 1
  · have HE := Lib.hid (show mayB l e = false by unfold mayB segsB; rw [decide_eq_false (by omega)]; rfl)
    have t1 : decide ((nv : Int) < 1) = true := decide_eq_true (by omega)
    clear h1 hS hI hn
    go_enter Try.func11, Try.ntmps11
    go_wp2_with fail
    go_ret
    exact ⟨ret_bool (by rw [HE.out]), HB0.out⟩
  by_cases h4 : 4 < nv
  · have HE := Lib.hid (show mayB l e = false by unfold mayB segsB; rw [decide_eq_false (by omega)]; rfl)
    have t1 : decide ((nv : Int) < 1) = false := decide_eq_false (by omega)
    have t2 : decide (4 < (nv : Int)) = true := decide_eq_true (by omega)
    clear h1 h4 hS hI hn
    go_enter Try.func11, Try.ntmps11
    go_wp2_with fail
    go_ret
    exact ⟨ret_bool (by rw [HE.out]), HB0.out⟩
  have HE := Lib.hid (show mayB l e = (goB 0 l && beginB l e) by unfold mayB segsB; rw [decide_eq_true (by omega)]; rfl)
  have t1 : decide ((nv : Int) < 1) = false := decide_eq_false (by omega)
  have t2 : decide (4 < (nv : Int)) = false := decide_eq_false (by omega)
  have n4 : (nv : Int) ≤ 4 := by omega
  clear h1 h4 hS hI hn
  go_enter Try.func11, Try.ntmps11
  obtain ⟨k0, k1⟩ := HX0.out _ (Below.refl _ _)
  go_wp2_with fail
  clear k0 k1
  generalize (w.alloc (.cells #[.int .u64 e, .slice A nv cap] 25)) = W at *
  go_loopw [3, 4] (fun ev iv wr => ∃ (i : Nat) (e2 : Int), i ≤ nv ∧ iv = .int .i64 i ∧ ev = .bool ((l.take i).any (atB e)) ∧ goB 0 l = goB e2 (l.drop i) ∧ (i = 0 → e2 = 0) ∧ (∀ h : i - 1 < l.length, 0 < i → e2 = l[i - 1].a + upI l[i - 1].z ∧ segB l[i - 1] = true) ∧ Below W.heap.size W wr) (fun _ iv _ => nv - (intOf iv).toNat)
  case atStart => exact ⟨0, 0, Nat.zero_le _, rfl, rfl, rfl, fun _ => rfl, fun _ h => absurd h (by omega), Below.refl _ _⟩
  case round =>
    obtain ⟨i, e2, hi, rfl, rfl, hg, hz, hp, hb⟩ := hrel
    have HB := Lib.hid hb
    have HG := Lib.hid hg
    obtain ⟨k0, k1⟩ := HX0.out _ hb
    by_cases hlt : i < nv
    case neg =>
      have hd : decide ((i : Int) < (nv : Int)) = false := by simp; omega
      have hT : l.take i = l := List.take_of_length_le (by have := HN.out; omega)
      have HF := Lib.hid (show mayB l e = l.any (atB e) by rw [HE.out, HG.out, show l.drop i = [] from List.drop_eq_nil_of_le (by have := HN.out; omega)]; rfl)
      rw [hT]
      clear hg hz hp hb hT
      go_wp2_with fail
      go_ret
      exact ⟨ret_bool (by rw [HF.out]), bthen HB0.out HB.out⟩
    have hil : i < l.length := by have := HN.out; omega
    obtain ⟨b, off, hA, c0, c1, c2, c3⟩ := (HS.out.next (bthen HB0.out HB.out)).at_ hil
    subst hA
    have hd : l.drop i = l[i] :: l.drop (i + 1) := List.drop_eq_getElem_cons hil
    have HEV := Lib.hid (any_take_succS (atB e) l i hil)
    have hsg := HI.out l[i] (List.getElem_mem hil)
    obtain ⟨g, hgg⟩ : ∃ g, l[i] = g := ⟨_, rfl⟩
    rw [hgg] at c0 c1 c2 c3 hd hsg HEV
    have HPN := Lib.hid (fun (h : i + 1 - 1 < l.length) => show l[i + 1 - 1] = g from by simp only [Nat.add_sub_cancel]; exact hgg)
    have HD := Lib.hid (show goB 0 l = (segB g && (decide (e2 ≤ g.a) && goB (g.a + upI g.z) (l.drop (i + 1)))) by rw [HG.out, hd]; rfl)
    obtain ⟨a, p, d, z⟩ := g
    simp only at c0 c1 c2 c3
    obtain ⟨⟨a0, a1⟩, ⟨p0, p1⟩, ⟨z0, z1⟩, dz⟩ := hsg
    simp only at a0 a1 p0 p1 z0 z1 dz
    have hm : a.tmod 256 = a % 256 := Int.tmod_eq_emod_of_nonneg a0
    have hdw : IntKind.u64.wrap (d.size : Int) = d.size := by rw [IntKind.wrap_u64]; omega
    have HIL := Lib.hid hlt
    have i0 : (0 : Int) ≤ (i : Int) := by omega
    have i1 : (i : Int) < (nv : Int) := by omega
    have HBS := Lib.hid (bthen hb (balloc (Below.refl _ wr) (.cells #[.int .u64 a, .int .i64 p, .string d, .int .u64 z] 41)))
    obtain ⟨x0, x1⟩ := HX0.out _ HBS.out
    have HXS := Lib.hid (fun (U : World) (hU : Below (wr.alloc (.cells #[.int .u64 a, .int .i64 p, .string d, .int .u64 z] 41)).heap.size (wr.alloc (.cells #[.int .u64 a, .int .i64 p, .string d, .int .u64 z] 41)) U) => (show U.cell? ⟨wr.heap.size, 0, none⟩ = some (.int .u64 a) ∧ U.cell? ⟨wr.heap.size, 1, none⟩ = some (.int .i64 p) ∧ U.cell? ⟨wr.heap.size, 2, none⟩ = some (.string d) ∧ U.cell? ⟨wr.heap.size, 3, none⟩ = some (.int .u64 z) from by
      have h := (hU.block wr.heap.size (by simp)).trans (heap_alloc_new wr _)
      exact ⟨Lib.cell_of_heap h 0, Lib.cell_of_heap h 1, Lib.cell_of_heap h 2, Lib.cell_of_heap h 3⟩))
    have HBF := Lib.hid (bthen HB0.out HBS.out)
    clear hd hg hb
    by_cases q1 : a % 256 = 0
    case neg =>
      have d1 : (a % 256 != 0) = true := by simpa using q1
      have hsb : segB ⟨a, p, d, z⟩ = false := by
        cases hc : segB ⟨a, p, d, z⟩ with
        | false => rfl
        | true =>
          obtain ⟨x1, x2, x3, x4, x5, x6⟩ := segB_parts hc
          have x7 := permB_parts x3
          simp only at x1 x2 x4 x5 x6 x7
          exfalso; omega
      have HF := Lib.hid (show mayB l e = false by rw [HE.out, HD.out, hsb]; rfl)
      clear hsb hgg hp hz
      go_wp2_with fail
      go_ret
      exact ⟨ret_bool (by rw [HF.out]), HBF.out⟩
    have d1 : (a % 256 != 0) = false := by simpa using q1
    by_cases q2 : a < 1099511627776
    case neg =>
      have d2 : decide (1099511627776 ≤ a) = true := by exact decide_eq_true (by omega)
      have hsb : segB ⟨a, p, d, z⟩ = false := by
        cases hc : segB ⟨a, p, d, z⟩ with
        | false => rfl
        | true =>
          obtain ⟨x1, x2, x3, x4, x5, x6⟩ := segB_parts hc
          have x7 := permB_parts x3
          simp only at x1 x2 x4 x5 x6 x7
          exfalso; omega
      have HF := Lib.hid (show mayB l e = false by rw [HE.out, HD.out, hsb]; rfl)
      clear hsb hgg hp hz
      go_wp2_with fail
      go_ret
      exact ⟨ret_bool (by rw [HF.out]), HBF.out⟩
    have d2 : decide (1099511627776 ≤ a) = false := by exact decide_eq_false (by omega)
    by_cases q3 : 1 ≤ p
    case neg =>
      have d3 : decide (p < 1) = true := by exact decide_eq_true (by omega)
      have hsb : segB ⟨a, p, d, z⟩ = false := by
        cases hc : segB ⟨a, p, d, z⟩ with
        | false => rfl
        | true =>
          obtain ⟨x1, x2, x3, x4, x5, x6⟩ := segB_parts hc
          have x7 := permB_parts x3
          simp only at x1 x2 x4 x5 x6 x7
          exfalso; omega
      have HF := Lib.hid (show mayB l e = false by rw [HE.out, HD.out, hsb]; rfl)
      clear hsb hgg hp hz
      go_wp2_with fail
      go_ret
      exact ⟨ret_bool (by rw [HF.out]), HBF.out⟩
    have d3 : decide (p < 1) = false := by exact decide_eq_false (by omega)
    have m4 : p.tmod 4 = p % 4 := Int.tmod_eq_emod_of_nonneg (by omega)
    have m2 : p.tmod 2 = p % 2 := Int.tmod_eq_emod_of_nonneg (by omega)
    by_cases q4 : p ≤ 7
    case neg =>
      have d4 : decide (7 < p) = true := by exact decide_eq_true (by omega)
      have hsb : segB ⟨a, p, d, z⟩ = false := by
        cases hc : segB ⟨a, p, d, z⟩ with
        | false => rfl
        | true =>
          obtain ⟨x1, x2, x3, x4, x5, x6⟩ := segB_parts hc
          have x7 := permB_parts x3
          simp only at x1 x2 x4 x5 x6 x7
          exfalso; omega
      have HF := Lib.hid (show mayB l e = false by rw [HE.out, HD.out, hsb]; rfl)
      clear hsb hgg hp hz
      go_wp2_with fail
      go_ret
      exact ⟨ret_bool (by rw [HF.out]), HBF.out⟩
    have d4 : decide (7 < p) = false := by exact decide_eq_false (by omega)
    by_cases q5 : p % 4 ≠ 3
    case neg =>
      have d5 : (p % 4 == 3) = true := by simp; omega
      have hsb : segB ⟨a, p, d, z⟩ = false := by
        cases hc : segB ⟨a, p, d, z⟩ with
        | false => rfl
        | true =>
          obtain ⟨x1, x2, x3, x4, x5, x6⟩ := segB_parts hc
          have x7 := permB_parts x3
          simp only at x1 x2 x4 x5 x6 x7
          exfalso; omega
      have HF := Lib.hid (show mayB l e = false by rw [HE.out, HD.out, hsb]; rfl)
      clear hsb hgg hp hz
      go_wp2_with fail
      go_ret
      exact ⟨ret_bool (by rw [HF.out]), HBF.out⟩
    have d5 : (p % 4 == 3) = false := by simp; omega
    by_cases q6 : 1 ≤ z
    case neg =>
      have d6 : decide (z < 1) = true := by exact decide_eq_true (by omega)
      have hsb : segB ⟨a, p, d, z⟩ = false := by
        cases hc : segB ⟨a, p, d, z⟩ with
        | false => rfl
        | true =>
          obtain ⟨x1, x2, x3, x4, x5, x6⟩ := segB_parts hc
          have x7 := permB_parts x3
          simp only at x1 x2 x4 x5 x6 x7
          exfalso; omega
      have HF := Lib.hid (show mayB l e = false by rw [HE.out, HD.out, hsb]; rfl)
      clear hsb hgg hp hz
      go_wp2_with fail
      go_ret
      exact ⟨ret_bool (by rw [HF.out]), HBF.out⟩
    have d6 : decide (z < 1) = false := by exact decide_eq_false (by omega)
    by_cases q7 : z ≤ 16384
    case neg =>
      have d7 : decide (16384 < z) = true := by exact decide_eq_true (by omega)
      have hsb : segB ⟨a, p, d, z⟩ = false := by
        cases hc : segB ⟨a, p, d, z⟩ with
        | false => rfl
        | true =>
          obtain ⟨x1, x2, x3, x4, x5, x6⟩ := segB_parts hc
          have x7 := permB_parts x3
          simp only at x1 x2 x4 x5 x6 x7
          exfalso; omega
      have HF := Lib.hid (show mayB l e = false by rw [HE.out, HD.out, hsb]; rfl)
      clear hsb hgg hp hz
      go_wp2_with fail
      go_ret
      exact ⟨ret_bool (by rw [HF.out]), HBF.out⟩
    have d7 : decide (16384 < z) = false := by exact decide_eq_false (by omega)
    by_cases q8 : (d.size : Int) ≤ z
    case neg =>
      have d8 : decide (z < (d.size : Int)) = true := by exact decide_eq_true (by omega)
      have hsb : segB ⟨a, p, d, z⟩ = false := by
        cases hc : segB ⟨a, p, d, z⟩ with
        | false => rfl
        | true =>
          obtain ⟨x1, x2, x3, x4, x5, x6⟩ := segB_parts hc
          have x7 := permB_parts x3
          simp only at x1 x2 x4 x5 x6 x7
          exfalso; omega
      have HF := Lib.hid (show mayB l e = false by rw [HE.out, HD.out, hsb]; rfl)
      clear hsb hgg hp hz
      go_wp2_with fail
      go_ret
      exact ⟨ret_bool (by rw [HF.out]), HBF.out⟩
    have d8 : decide (z < (d.size : Int)) = false := by exact decide_eq_false (by omega)
    have hsb : segB ⟨a, p, d, z⟩ = true := by
      unfold segB permB
      simp only [Bool.and_eq_true, decide_eq_true_eq]
      exact ⟨⟨q1, q2⟩, ⟨q3, q4, q5⟩, q6, q7, q8⟩
    have HSB := Lib.hid hsb
    have hsum : IntKind.u64.wrap (a + z) = a + z := by rw [IntKind.wrap_u64]; omega
    have hev := HEV.out
    obtain ⟨ev, hev0⟩ : ∃ ev, (l.take i).any (atB e) = ev := ⟨_, rfl⟩
    rw [hev0] at hev ⊢
    have HEV2 := Lib.hid hev
    have HNX := Lib.hid (fun (h : i + 1 - 1 < l.length) (_ : 0 < i + 1) => (show a + upI z = l[i + 1 - 1].a + upI l[i + 1 - 1].z ∧ segB l[i + 1 - 1] = true from by rw [HPN.out h]; exact ⟨rfl, HSB.out⟩))
    obtain ⟨c0', c1', c2', c3'⟩ := HXS.out _ (Below.refl _ _)
    clear hev hev0 hgg hsb HEV hm q1 q2 q3 q4 q5 q6 q7 q8
    rcases Nat.eq_zero_or_pos i with hi0 | hi0
    · obtain rfl := hz hi0
      have HGN := Lib.hid (show goB 0 l = goB (a + upI z) (l.drop (i + 1)) by rw [HD.out, HSB.out, decide_eq_true (show (0 : Int) ≤ a from a0)]; rfl)
      have g0 : ¬ 0 < i := by omega
      have g1 : decide (0 < i) = false := decide_eq_false g0
      clear hi0 hp hz
      go_wp2_with fail
      go_quiet (fail)
      have HBQ := Lib.hid (bthen HBS.out (drewN_below _ nq))
      obtain ⟨y0, y1⟩ := HX0.out _ HBQ.out
      obtain ⟨s0, s1, s2, s3⟩ := HXS.out _ (drewN_below _ nq)
      clear c0' c1' c2' c3' x0 x1 y1
      cases ev with
      | true =>
        have HV := Lib.hid (show (l.take (i + 1)).any (atB e) = true from by rw [HEV2.out]; rfl)
        go_wp2_with fail
        go_roundw
        case rel => exact ⟨i + 1, _, HIL.out, by go_num, by rw [HV.out], HGN.out, fun h => absurd h (by omega), HNX.out, HBQ.out⟩
        case measure => have := HIL.out; simp [intOf]; omega
      | false =>
        by_cases r1 : p % 2 = 1
        case neg =>
          have e1 : (p % 2 == 1) = false := by simpa using r1
          have HV := Lib.hid (show (l.take (i + 1)).any (atB e) = false from by rw [HEV2.out]; unfold atB; simp [r1])
          go_wp2_with fail
          go_roundw
          case rel => exact ⟨i + 1, _, HIL.out, by go_num, by rw [HV.out], HGN.out, fun h => absurd h (by omega), HNX.out, HBQ.out⟩
          case measure => have := HIL.out; simp [intOf]; omega
        have e1 : (p % 2 == 1) = true := by simpa using r1
        by_cases r2 : a ≤ e
        case neg =>
          have e2' : decide (a ≤ e) = false := decide_eq_false r2
          have HV := Lib.hid (show (l.take (i + 1)).any (atB e) = false from by rw [HEV2.out]; unfold atB; simp [r2])
          go_wp2_with fail
          go_roundw
          case rel => exact ⟨i + 1, _, HIL.out, by go_num, by rw [HV.out], HGN.out, fun h => absurd h (by omega), HNX.out, HBQ.out⟩
          case measure => have := HIL.out; simp [intOf]; omega
        have e2' : decide (a ≤ e) = true := decide_eq_true r2
        by_cases r3 : e < a + z
        case neg =>
          have e3 : decide (e < a + z) = false := decide_eq_false r3
          have HV := Lib.hid (show (l.take (i + 1)).any (atB e) = false from by rw [HEV2.out]; unfold atB; simp [r3])
          go_wp2_with fail
          go_roundw
          case rel => exact ⟨i + 1, _, HIL.out, by go_num, by rw [HV.out], HGN.out, fun h => absurd h (by omega), HNX.out, HBQ.out⟩
          case measure => have := HIL.out; simp [intOf]; omega
        have e3 : decide (e < a + z) = true := decide_eq_true r3
        have HV := Lib.hid (show (l.take (i + 1)).any (atB e) = true from by rw [HEV2.out]; unfold atB; simp [r1, r2, r3])
        go_wp2_with fail
        go_roundw
        case rel => exact ⟨i + 1, _, HIL.out, by go_num, by rw [HV.out], HGN.out, fun h => absurd h (by omega), HNX.out, HBQ.out⟩
        case measure => have := HIL.out; simp [intOf]; omega
    · obtain ⟨j, rfl⟩ : ∃ j, i = j + 1 := ⟨i - 1, by omega⟩
      have hjl : j < l.length := by omega
      obtain ⟨he2, hsp⟩ := hp (by omega) (by omega)
      simp only [Nat.add_sub_cancel] at he2 hsp
      obtain ⟨b', off', hA, q0, -, -, q3⟩ := (HS.out.next (bthen HB0.out HBS.out)).at_ hjl
      obtain ⟨rfl, rfl⟩ : b = b' ∧ off = off' := by cases hA; exact ⟨rfl, rfl⟩
      have hsj := HI.out l[j] (List.getElem_mem hjl)
      obtain ⟨g, hgj⟩ : ∃ g, l[j] = g := ⟨_, rfl⟩
      rw [hgj] at q0 q3 hsj he2 hsp
      obtain ⟨-, ga, -, -, gz, -⟩ := segB_parts hsp
      obtain ⟨pa, pp, pd, pz⟩ := g
      obtain ⟨⟨pa0, pa1⟩, -, ⟨pz0, pz1⟩, -⟩ := hsj
      simp only at q0 q3 he2 ga gz pa0 pa1 pz0 pz1
      have HU := Lib.hid (fun W => rup_any pz pz0 pz1 W)
      have hup := upI_in pz pz0 (by omega)
      obtain ⟨u, hu⟩ : ∃ u, upI pz = u := ⟨_, rfl⟩
      rw [hu] at HU hup he2
      have u0 : 0 ≤ u := by omega
      have u1 : u ≤ 16639 := by omega
      have hsm : IntKind.u64.wrap (pa + u) = pa + u := by rw [IntKind.wrap_u64]; omega
      subst he2
      have j0 : (0 : Int) ≤ (j : Int) := by omega
      have j1 : (j : Int) < (nv : Int) := by have := HN.out; omega
      have g0 : 0 < j + 1 := by omega
      have g1 : decide (0 < j + 1) = true := decide_eq_true g0
      clear hA hgj hsp hup hu hi0 hp hz hjl
      by_cases hae : a < pa + u
      · have e9 : decide (a < pa + u) = true := decide_eq_true hae
        have HF := Lib.hid (show mayB l e = false by rw [HE.out, HD.out, HSB.out, decide_eq_false (show ¬ pa + u ≤ a by omega)]; rfl)
        go_wp2_with fail
        go_quiet ((go_at_call 13; exact Calls.quiet_of_same (HU.out _)))
        go_wp2_with fail
        go_ret
        exact ⟨ret_bool (by rw [HF.out]), bthen HBF.out (drewN_below _ nq)⟩
      · have e9 : decide (a < pa + u) = false := decide_eq_false hae
        have HGN := Lib.hid (show goB 0 l = goB (a + upI z) (l.drop (j + 1 + 1)) by rw [HD.out, HSB.out, decide_eq_true (show pa + u ≤ a by omega)]; rfl)
        go_wp2_with fail
        go_quiet ((go_at_call 13; exact Calls.quiet_of_same (HU.out _)))
        have HBQ := Lib.hid (bthen HBS.out (drewN_below _ nq))
        obtain ⟨y0, y1⟩ := HX0.out _ HBQ.out
        obtain ⟨s0, s1, s2, s3⟩ := HXS.out _ (drewN_below _ nq)
        clear c0' c1' c2' c3' x0 x1 y1
        cases ev with
        | true =>
          have HV := Lib.hid (show (l.take (j + 1 + 1)).any (atB e) = true from by rw [HEV2.out]; rfl)
          go_wp2_with fail
          go_roundw
          case rel => exact ⟨j + 1 + 1, _, HIL.out, by go_num, by rw [HV.out], HGN.out, fun h => absurd h (by omega), HNX.out, HBQ.out⟩
          case measure => have := HIL.out; simp [intOf]; omega
        | false =>
          by_cases r1 : p % 2 = 1
          case neg =>
            have e1 : (p % 2 == 1) = false := by simpa using r1
            have HV := Lib.hid (show (l.take (j + 1 + 1)).any (atB e) = false from by rw [HEV2.out]; unfold atB; simp [r1])
            go_wp2_with fail
            go_roundw
            case rel => exact ⟨j + 1 + 1, _, HIL.out, by go_num, by rw [HV.out], HGN.out, fun h => absurd h (by omega), HNX.out, HBQ.out⟩
            case measure => have := HIL.out; simp [intOf]; omega
          have e1 : (p % 2 == 1) = true := by simpa using r1
          by_cases r2 : a ≤ e
          case neg =>
            have e2' : decide (a ≤ e) = false := decide_eq_false r2
            have HV := Lib.hid (show (l.take (j + 1 + 1)).any (atB e) = false from by rw [HEV2.out]; unfold atB; simp [r2])
            go_wp2_with fail
            go_roundw
            case rel => exact ⟨j + 1 + 1, _, HIL.out, by go_num, by rw [HV.out], HGN.out, fun h => absurd h (by omega), HNX.out, HBQ.out⟩
            case measure => have := HIL.out; simp [intOf]; omega
          have e2' : decide (a ≤ e) = true := decide_eq_true r2
          by_cases r3 : e < a + z
          case neg =>
            have e3 : decide (e < a + z) = false := decide_eq_false r3
            have HV := Lib.hid (show (l.take (j + 1 + 1)).any (atB e) = false from by rw [HEV2.out]; unfold atB; simp [r3])
            go_wp2_with fail
            go_roundw
            case rel => exact ⟨j + 1 + 1, _, HIL.out, by go_num, by rw [HV.out], HGN.out, fun h => absurd h (by omega), HNX.out, HBQ.out⟩
            case measure => have := HIL.out; simp [intOf]; omega
          have e3 : decide (e < a + z) = true := decide_eq_true r3
          have HV := Lib.hid (show (l.take (j + 1 + 1)).any (atB e) = true from by rw [HEV2.out]; unfold atB; simp [r1, r2, r3])
          go_wp2_with fail
          go_roundw
          case rel => exact ⟨j + 1 + 1, _, HIL.out, by go_num, by rw [HV.out], HGN.out, fun h => absurd h (by omega), HNX.out, HBQ.out⟩
          case measure => have := HIL.out; simp [intOf]; omega
end Go.Proofs.Ytpifndpbmjmglaa
