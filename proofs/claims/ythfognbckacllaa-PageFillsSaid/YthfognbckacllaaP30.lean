/- PageGuards: what a page does not grant is refused. -/
import Derived.Test.YthfognbckacllaaP27
import Derived.Test.YthfognbckacllaaP29
namespace Go.Proofs.Ythfognbckacllaa
open Go.RowKit

attribute [local go_sem] Oper.semAt_some

theorem low_at {m : List M.Pg} (h : M.Right m) {i : Nat} (hi : i < m.length) : M.there m m[i].a = true ∧ M.low m m[i].a = i := by
  have ht : M.there m m[i].a = true := by
    unfold M.there
    rw [List.any_eq_true]
    exact ⟨m[i], List.getElem_mem hi, by simp⟩
  refine ⟨ht, ?_⟩
  obtain ⟨h1, h2⟩ := (M.there_iff h.up _).1 ht
  rcases Nat.lt_trichotomy (M.low m m[i].a) i with h3 | h3 | h3
  · have := h.at_lt h3 hi
    omega
  · exact h3
  · have := h.at_lt h3 h1
    omega
theorem guard_num {m : List M.Pg} (h : M.Right m) {i : Nat} (hi : i < m.length) (c perm : Int) (c0 : 0 ≤ c) (c1 : c < 256) :
    numErr m (m[i].a + c) 1 perm = (if okBits m[i].p perm = true then 0 else 6) ∧ 0 ≤ m[i].a + c ∧ m[i].a + c ≤ 18446744073709551615 := by
  have ha := h.at_mod hi
  have hg := h.ge _ (List.getElem_mem hi)
  have hl := h.le _ (List.getElem_mem hi)
  obtain ⟨ht, hlo⟩ := low_at h hi
  refine ⟨?_, by omega, by omega⟩
  have hgr : grantB m m[i].a perm = okBits m[i].p perm := by
    unfold grantB
    rw [ht, hlo, List.getElem?_eq_getElem hi]
    rfl
  have hmin : min (1 : Int) (256 - (m[i].a + c) % 256) = 1 := by omega
  have hst : M.strs (m[i].a + c) 1 = [⟨m[i].a, (m[i].a + c) % 256, 1⟩] := by
    rw [M.strs_cons (by omega), hmin, M.strs_nil (by omega), show m[i].a + c - (m[i].a + c) % 256 = m[i].a by omega]
  have hall : allGrantB m (m[i].a + c) 1 perm = okBits m[i].p perm := by
    unfold allGrantB
    rw [hst, show beyondB (m[i].a + c) 1 = false by simp [beyondB]; omega]
    simp [hgr]
  unfold numErr
  rw [hall, Right.rb h]
  cases okBits m[i].p perm <;> simp
theorem bits_tab : ∀ p : Nat, p < 8 → ∀ q : Nat, q < 8 → (bits BinOp.and IntKind.i64 (p : Int) (q : Int) == (q : Int)) = (bits BinOp.or IntKind.i64 (p : Int) (q : Int) == (p : Int)) := by decide +kernel
theorem bits_two : ∀ p : Nat, p < 8 → (bits BinOp.and IntKind.i64 (p : Int) 2 == 2) = ((p : Int) / 2 % 2 == 1) := by decide +kernel
theorem bits_or_in : ∀ p : Nat, p < 8 → ∀ q : Nat, q < 8 → 0 ≤ bits BinOp.or IntKind.i64 (p : Int) (q : Int) ∧ bits BinOp.or IntKind.i64 (p : Int) (q : Int) < 8 := by decide +kernel

set_option maxRecDepth 100000 in
set_option maxHeartbeats 4000000 in
theorem guards_walk {m : List M.Pg} {A : Option Addr} {nv cap : Nat} (a i perm : Int) (w : World) (hP : Pages w (.slice A nv cap) m) (hw : Wf m) (a0 : 0 ≤ a) (a1 : a ≤ 18446744073709551615) :
    Calls Try.prog 7 #[.agg #[.slice A nv cap, .int .u64 a, .int .i64 i, .int .i64 perm]] w fun e w' => e = .returned (.bool true) ∧ Below w.heap.size w w' := by
  have HNV := Lib.hid hP.len
  have HP := Lib.hid hP
  have HR := Lib.hid (fun (W : World) (hb : Below w.heap.size w W) => refRight_any (hP.next hb) hw.a0)
  by_cases hr : rightB m = true
  · rw [hr] at HR
    by_cases i0 : i < 0
    · clear hP hw hr
      go_enter Try.func7, Try.ntmps7
      go_wp2_with fail
      refine (shown_any _).mono ?_
      rintro e w1 ⟨rfl, hb1⟩
      have HB1 := Lib.hid (bthen (balloc (Below.refl _ w) _) hb1)
      clear hb1
      go_wp2_with fail
      refine (HR.out _ HB1.out).mono ?_
      rintro e w2 ⟨rfl, hb2⟩
      have HB2 := Lib.hid (bthen HB1.out hb2)
      clear hb2
      go_wp2_with fail
      go_ret
      exact ⟨rfl, HB2.out⟩
    · by_cases hout : nv ≤ i ∨ perm < 1 ∨ 7 < perm
      · have q1 : ¬ i < 0 := i0
        clear hP hw hr
        go_enter Try.func7, Try.ntmps7
        go_wp2_with fail
        refine (shown_any _).mono ?_
        rintro e w1 ⟨rfl, hb1⟩
        have HB1 := Lib.hid (bthen (balloc (Below.refl _ w) _) hb1)
        clear hb1
        go_wp2_with fail
        refine (HR.out _ HB1.out).mono ?_
        rintro e w2 ⟨rfl, hb2⟩
        have HB2 := Lib.hid (bthen HB1.out hb2)
        clear hb2
        by_cases h1 : nv ≤ i
        · go_wp2_with fail
          go_ret
          exact ⟨rfl, HB2.out⟩
        · by_cases h2 : perm < 1
          · go_wp2_with fail
            go_ret
            exact ⟨rfl, HB2.out⟩
          · have h3 : 7 < perm := by omega
            go_wp2_with fail
            go_ret
            exact ⟨rfl, HB2.out⟩
      · obtain ⟨I, rfl⟩ := Int.eq_ofNat_of_zero_le (show 0 ≤ i by omega)
        have hR := Right.of hr hw.a0 hw.a1
        have hIn : I < nv := by omega
        have hi : I < m.length := by have := HNV.out; omega
        have hpa := hR.perm hi
        obtain ⟨p, hp⟩ := Int.eq_ofNat_of_zero_le hpa.1
        obtain ⟨q, rfl⟩ := Int.eq_ofNat_of_zero_le (show 0 ≤ perm by omega)
        obtain ⟨g1, t0, t1⟩ := guard_num hR hi (a % 256) q (by omega) (by omega)
        obtain ⟨g2, _, _⟩ := guard_num hR hi (a % 256) 2 (by omega) (by omega)
        rw [hp] at g1 g2
        have hp8 : p < 8 := by omega
        have hq8 : q < 8 := by omega
        have hln := hR.len
        obtain ⟨b, off, hA, hPI⟩ : ∃ b off, A = some ⟨b, off, none⟩ ∧ PagesIn w b off m := by
          rcases hP with ⟨rfl, _⟩ | ⟨_, b, off, c, e, h⟩
          · simp at hi
          · cases e; exact ⟨b, off, rfl, h⟩
        subst hA
        have HPI := Lib.hid hPI
        have cells := fun (W : World) (hb : Below w.heap.size w W) => (HPI.out.next hb).2 I hi
        obtain ⟨xa, hxa⟩ : ∃ xa, m[I].a = xa := ⟨_, rfl⟩
        rw [hxa] at g1 g2 t0 t1
        rw [hxa, hp] at cells
        have HC := Lib.hid cells
        obtain ⟨E1, hE1⟩ : ∃ E, numErr m (xa + a % 256) 1 q = E := ⟨_, rfl⟩
        obtain ⟨E2, hE2⟩ : ∃ E, numErr m (xa + a % 256) 1 2 = E := ⟨_, rfl⟩
        have HLo := Lib.hid (fun (W : World) (hb : Below w.heap.size w W) => load_any (xa + a % 256) 1 q (hP.next hb) hw t0 t1)
        have HSt := Lib.hid (fun (W : World) (hb : Below w.heap.size w W) => store_any (xa + a % 256) 1 7 (hP.next hb) hw (by omega) t0 t1 (by omega))
        rw [hE1] at HLo g1
        rw [hE2] at HSt g2
        obtain ⟨X, hX⟩ : ∃ X, loadV m (xa + a % 256) 1 q = X := ⟨_, rfl⟩
        rw [hX] at HLo
        have G1 := Lib.hid g1
        have G2 := Lib.hid g2
        have T := Lib.hid (bits_tab p hp8 q hq8)
        have T2 := Lib.hid (bits_two p hp8)
        have wr : IntKind.u64.wrap (xa + a % 256) = xa + a % 256 := by rw [IntKind.wrap_u64]; omega
        have i1 : ¬ nv ≤ I := by omega
        have q1 : ¬ ((q : Int) < 1) := by omega
        have q2 : ¬ (7 < (q : Int)) := by omega
        have r1 : (p : Int) % 8 = (p : Int) := by omega
        have r2 : Int.tmod (p : Int) 8 = (p : Int) := by rw [Int.tmod_eq_emod_of_nonneg (by omega)]; omega
        clear hP hPI hw hr hX hE1 hE2 g1 g2 cells hxa hp hpa hR hln i0 hout
        go_enter Try.func7, Try.ntmps7
        go_wp2_with fail
        refine (shown_any _).mono ?_
        rintro e w1 ⟨rfl, hb1⟩
        have HB1 := Lib.hid (bthen (balloc (Below.refl _ w) _) hb1)
        clear hb1
        go_wp2_with fail
        refine (HR.out _ HB1.out).mono ?_
        rintro e w2 ⟨rfl, hb2⟩
        have HB2 := Lib.hid (bthen HB1.out hb2)
        clear hb2
        obtain ⟨e0, e1, -⟩ := HC.out _ HB2.out
        go_wp2_with fail
        refine (HLo.out _ HB2.out).mono ?_
        rintro e w3 ⟨rfl, hb3⟩
        have HB3 := Lib.hid (bthen HB2.out hb3)
        clear hb3 e0 e1
        go_wp2_with fail
        refine (HSt.out _ HB3.out).mono ?_
        rintro e w4 ⟨kv, rfl, hown, hb4⟩
        have HB4 := Lib.hid (bthen HB3.out hb4)
        clear hown hb4
        obtain ⟨e0, e1, -⟩ := HC.out _ HB4.out
        have B1 : (E1 == 0) = (bits BinOp.or IntKind.i64 (p : Int) (q : Int) == (p : Int)) := by
          rw [← T.out, G1.out]
          unfold okBits
          cases (bits BinOp.and IntKind.i64 (p : Int) (q : Int) == (q : Int)) <;> simp
        have B2 : (E2 == 0) = ((p : Int) / 2 % 2 == 1) := by
          rw [← T2.out, G2.out]
          unfold okBits
          cases (bits BinOp.and IntKind.i64 (p : Int) 2 == 2) <;> simp
        have d2 : Int.tdiv (p : Int) 2 = (p : Int) / 2 := Int.tdiv_eq_ediv_of_nonneg (by omega)
        have d3 : IntKind.i64.wrap ((p : Int) / 2) = (p : Int) / 2 := by rw [IntKind.wrap_i64]; omega
        have d4 : Int.tmod ((p : Int) / 2) 2 = (p : Int) / 2 % 2 := Int.tmod_eq_emod_of_nonneg (by omega)
        go_wp2_with fail
        go_ret
        exact ⟨rfl, HB4.out⟩
  · have hr' : rightB m = false := by simpa using hr
    rw [hr'] at HR
    clear hP hw hr hr'
    go_enter Try.func7, Try.ntmps7
    go_wp2_with fail
    refine (shown_any _).mono ?_
    rintro e w1 ⟨rfl, hb1⟩
    have HB1 := Lib.hid (bthen (balloc (Below.refl _ w) _) hb1)
    clear hb1
    go_wp2_with fail
    refine (HR.out _ HB1.out).mono ?_
    rintro e w2 ⟨rfl, hb2⟩
    have HB2 := Lib.hid (bthen HB1.out hb2)
    clear hb2
    go_wp2_with fail
    go_ret
    exact ⟨rfl, HB2.out⟩
end Go.Proofs.Ythfognbckacllaa
