/- ElfPlaces: in an image that may be segments stand apart, at multiples of a page, none of them both written and holding instructions. -/
import Derived.Test.YthaieajakdcodaaF11
namespace Go.Proofs.Ythaieajakdcodaa
open Go.RowKit

/-- segments that may be stand one behind another -/
theorem go_apart : ∀ (l : List Sg) (e : Int), goB e l = true → (∀ s ∈ l, SgIn s) → ∀ (i k : Nat) (hi : i < l.length) (hk : k < i), l[k].a + l[k].z ≤ l[i].a
  | [], _, _, _, i, _, hi, _ => by simp at hi
  | g :: t, e, h, hI, i, k, hi, hk => by
    simp only [goB, Bool.and_eq_true, decide_eq_true_eq] at h
    obtain ⟨h1, h2, h3⟩ := h
    obtain ⟨-, -, -, gz1, gz2, -⟩ := segB_parts h1
    obtain ⟨j, rfl⟩ : ∃ j, i = j + 1 := ⟨i - 1, by omega⟩
    have hj : j < t.length := by simpa using hi
    match k with
    | 0 =>
      have hlow : ∀ (t : List Sg) (e : Int), goB e t = true → (∀ s ∈ t, SgIn s) → ∀ (j : Nat) (hj : j < t.length), e ≤ t[j].a := by
        intro t
        induction t with
        | nil => intro e _ _ j hj; simp at hj
        | cons a t ih =>
          intro e h hI j hj
          simp only [goB, Bool.and_eq_true, decide_eq_true_eq] at h
          obtain ⟨-, -, -, z1, z2, -⟩ := segB_parts h.1
          match j with
          | 0 => exact h.2.1
          | j + 1 =>
            have h4 := ih _ h.2.2 (fun s hs => hI s (by simp [hs])) j (by simpa using hj)
            have h5 := upI_in a.z (by omega) (by omega)
            show e ≤ (t[j]'(by simpa using hj)).a
            have := h.2.1
            omega
      have h4 := hlow t _ h3 (fun s hs => hI s (by simp [hs])) j hj
      have h5 := upI_in g.z (by omega) (by omega)
      show g.a + g.z ≤ t[j].a
      omega
    | k + 1 =>
      exact go_apart t _ h3 (fun s hs => hI s (by simp [hs])) j k hj (by omega)
set_option maxRecDepth 100000 in
set_option maxHeartbeats 4000000 in
theorem places_no (l : List Sg) (e : Int) (A : Option Addr) (nv cap : Nat) (w : World) (hS : Segs w (.slice A nv cap) l) (hI : ∀ s ∈ l, SgIn s) (hm : mayB l e = false) :
    Calls Try.prog 8 #[.agg #[.int .u64 e, .slice A nv cap]] w fun r w' => r = .returned (.bool true) ∧ Below w.heap.size w w' := by
  have HM := Lib.hid (fun (W : World) (hb : Below w.heap.size w W) => may_any l e A nv cap W (hS.next hb) hI)
  rw [hm] at HM
  clear hS hI hm
  go_enter Try.func8, Try.ntmps8
  go_wp2_with fail
  refine (eshown_any _).mono ?_
  rintro r w1 ⟨rfl, hb⟩
  have HB1 := Lib.hid (bthen (balloc (Below.refl _ w) _) hb)
  have k0 : w1.cell? ⟨w.heap.size, 0, none⟩ = some (.int .u64 e) := by rw [(bcell hb).1 _ _ (by simp)]; simp [go_sem]
  have k1 : w1.cell? ⟨w.heap.size, 1, none⟩ = some (.slice A nv cap) := by rw [(bcell hb).1 _ _ (by simp)]; simp [go_sem]
  clear hb
  go_wp2_with fail
  refine (HM.out _ HB1.out).mono ?_
  rintro r w2 ⟨rfl, hb⟩
  have HB2 := Lib.hid (bthen HB1.out hb)
  clear hb
  go_wp2_with fail
  go_ret
  exact ⟨rfl, HB2.out⟩
set_option maxRecDepth 100000 in
set_option maxHeartbeats 4000000 in
theorem places_yes (l : List Sg) (e : Int) (A : Option Addr) (nv cap : Nat) (w : World) (hS : Segs w (.slice A nv cap) l) (hI : ∀ s ∈ l, SgIn s) (hm : mayB l e = true) :
    Calls Try.prog 8 #[.agg #[.int .u64 e, .slice A nv cap]] w fun r w' => r = .returned (.bool true) ∧ Below w.heap.size w w' := by
  have HM := Lib.hid (fun (W : World) (hb : Below w.heap.size w W) => may_any l e A nv cap W (hS.next hb) hI)
  rw [hm] at HM
  have hm2 := hm
  unfold mayB segsB at hm2
  simp only [Bool.and_eq_true, decide_eq_true_eq] at hm2
  have HSB := Lib.hid (segs_all hm2.1.2)
  have HAP := Lib.hid (go_apart l 0 hm2.1.2 hI)
  obtain ⟨⟨⟨n1, n4⟩, -⟩, -⟩ := hm2
  have hn := hS.len
  have HN := Lib.hid hn
  have HS := Lib.hid hS
  have HI := Lib.hid hI
  have hnv4 : (nv : Int) ≤ 4 := by omega
  have hnv1 : (1 : Int) ≤ (nv : Int) := by omega
  have hnn1 : 1 ≤ nv := by omega
  have hnn4 : nv ≤ 4 := by omega
  clear hS hI hm n1 n4 hn
  go_enter Try.func8, Try.ntmps8
  go_wp2_with fail
  refine (eshown_any _).mono ?_
  rintro r w1 ⟨rfl, hb⟩
  have HB1 := Lib.hid (bthen (balloc (Below.refl _ w) _) hb)
  have hbx : w1.heap[w.heap.size]? = some (.cells #[.int .u64 e, .slice A nv cap] 25 (0, 0)) := (hb.block w.heap.size (by simp)).trans (heap_alloc_new w _)
  have HBX := Lib.hid hbx
  have k0 : w1.cell? ⟨w.heap.size, 0, none⟩ = some (.int .u64 e) := by rw [Lib.cell_of_heap hbx]; rfl
  have k1 : w1.cell? ⟨w.heap.size, 1, none⟩ = some (.slice A nv cap) := by rw [Lib.cell_of_heap hbx]; rfl
  clear hb hbx
  go_wp2_with fail
  refine (HM.out _ HB1.out).mono ?_
  rintro r w2 ⟨rfl, hb⟩
  have HB2 := Lib.hid (bthen HB1.out hb)
  have HBX2 := Lib.hid ((hb.block w.heap.size (Array.getElem?_eq_some_iff.1 HBX.out).1).trans HBX.out)
  clear hb k0 k1
  go_wp2_with fail
  have HRF := Lib.hid (Below.refl w2.heap.size w2)
  go_loopw [4] (fun iv wr => ∃ i : Nat, i ≤ nv ∧ iv = .int .i64 i ∧ Below w2.heap.size w2 wr) (fun iv _ => nv - (intOf iv).toNat)
  case atStart => exact ⟨0, Nat.zero_le _, rfl, HRF.out⟩
  case round =>
    obtain ⟨i, hi, rfl, hbr⟩ := hrel
    have HBR := Lib.hid hbr
    have hbx := (hbr.block w.heap.size (Array.getElem?_eq_some_iff.1 HBX2.out).1).trans HBX2.out
    have k1 : wr.cell? ⟨w.heap.size, 1, none⟩ = some (.slice A nv cap) := by rw [Lib.cell_of_heap hbx]; rfl
    have HXR := Lib.hid hbx
    clear hbr hbx
    by_cases hlt : i < nv
    · have hil : i < l.length := by have := HN.out; omega
      have hSr := HS.out.next (bthen HB2.out HBR.out)
      obtain ⟨b, off, hA, c0, c1, c2, c3⟩ := hSr.at_ hil
      subst hA
      have hsb := HSB.out l[i] (List.getElem_mem hil)
      have hsg := HI.out l[i] (List.getElem_mem hil)
      have hap := HAP.out i
      obtain ⟨g, hgg⟩ : ∃ g, l[i] = g := ⟨_, rfl⟩
      have HAI := Lib.hid (show ∀ (k : Nat) (hk : k < i) (hkl : k < l.length), l[k].a + l[k].z ≤ g.a from fun k hk hkl => by rw [← hgg]; exact hap k hil hk)
      rw [hgg] at c0 c1 c2 c3 hsb hsg
      obtain ⟨ga0, ga1, gp, -, -, -⟩ := segB_parts hsb
      obtain ⟨p1, p7, p3⟩ := permB_parts gp
      obtain ⟨ga, gpp, gd, gz⟩ := g
      obtain ⟨⟨a0, a1⟩, -, -, -⟩ := hsg
      simp only at c0 c1 c2 c3 ga0 ga1 p1 p7 p3 a0 a1
      have m1 : ga.tmod 256 = ga % 256 := Int.tmod_eq_emod_of_nonneg a0
      have m2 : (ga % 256 != 0) = false := by simpa using ga0
      have m3 : gpp.tmod 4 = gpp % 4 := Int.tmod_eq_emod_of_nonneg (by omega)
      have m4 : (gpp % 4 == 3) = false := by simpa using p3
      have m5 : decide (gpp < 1) = false := decide_eq_false (by omega)
      have m6 : decide (7 < gpp) = false := decide_eq_false (by omega)
      have HIL := Lib.hid hlt
      have i0 : (0 : Int) ≤ (i : Int) := by omega
      have i1 : (i : Int) < (nv : Int) := by omega
      have HGA := Lib.hid ga1
      clear hsb gp hap hgg hil hSr ga0 ga1 p3
      go_wp2_with fail
      obtain ⟨X, hX⟩ : ∃ X, wr.alloc (.cells #[.int .u64 ga, .int .i64 gpp, .string gd, .int .u64 gz] 45) = X := ⟨_, rfl⟩
      have hXb : X.heap[wr.heap.size]? = some (.cells #[.int .u64 ga, .int .i64 gpp, .string gd, .int .u64 gz] 45 (0, 0)) := by rw [← hX]; exact heap_alloc_new _ _
      have HXB := Lib.hid hXb
      have HBX3 := Lib.hid (show Below w2.heap.size w2 X by rw [← hX]; exact balloc HBR.out _)
      have HXI := Lib.hid ((HBX3.out.block w.heap.size (Array.getElem?_eq_some_iff.1 HBX2.out).1).trans HBX2.out)
      (try rw [hX])
      clear hX hXb c0 c1 c2 c3 k1 m1 m2 m3 m4 m5 m6
      go_loopw [6] (fun kv wr2 => ∃ k : Nat, k ≤ i ∧ kv = .int .i64 k ∧ Below X.heap.size X wr2) (fun kv _ => i - (intOf kv).toNat)
      case atStart => exact ⟨0, Nat.zero_le _, rfl, Below.refl _ _⟩
      case round =>
        obtain ⟨k, hk, rfl, hbk⟩ := hrel
        have HBK := Lib.hid hbk
        clear hbk
        by_cases hki : k < i
        · have hkl : k < l.length := by have := HN.out; omega
          have hbox := (HBK.out.block _ (Array.getElem?_eq_some_iff.1 HXB.out).1).trans HXB.out
          have himg := (HBK.out.block w.heap.size (Array.getElem?_eq_some_iff.1 HXI.out).1).trans HXI.out
          have k1 : wr.cell? ⟨w.heap.size, 1, none⟩ = some (.slice (some ⟨b, off, none⟩) nv cap) := by rw [Lib.cell_of_heap himg]; rfl
          have hSr2 := HS.out.next (bthen HB2.out (bthen HBX3.out HBK.out))
          obtain ⟨b2, off2, hA2, c0, c1, c2, c3⟩ := hSr2.at_ hkl
          cases hA2
          have hsb := HSB.out l[k] (List.getElem_mem hkl)
          have hsg := HI.out l[k] (List.getElem_mem hkl)
          have hle := HAI.out k hki hkl
          obtain ⟨h, hgg⟩ : ∃ g, l[k] = g := ⟨_, rfl⟩
          rw [hgg] at c0 c1 c2 c3 hsb hsg hle
          obtain ⟨-, ha1, -, hz1, hz2, -⟩ := segB_parts hsb
          obtain ⟨ha, hp, hd, hz⟩ := h
          obtain ⟨⟨ha0, -⟩, -, -, -⟩ := hsg
          simp only at c0 c1 c2 c3 ha1 hz1 hz2 ha0 hle
          have d0 := Lib.cell_of_heap hbox 0
          have hsum : IntKind.u64.wrap (ha + hz) = ha + hz := by rw [IntKind.wrap_u64]; omega
          have hgt : decide (ga < ha + hz) = false := decide_eq_false (by omega)
          have HKI := Lib.hid hki
          have k0' : (0 : Int) ≤ (k : Int) := by omega
          have k1' : (k : Int) < (i : Int) := by omega
          have k2' : (k : Int) < (nv : Int) := by omega
          clear hsb hgg hkl hSr2 hbox himg hle ha1 hz1 hz2 ha0 hki
          go_wp2_with fail
          go_quiet (fail)
          have HBK2 := Lib.hid (bthen HBK.out (drewN_below _ nq))
          clear d0 c0 c1 c2 c3 k1
          generalize wr.drewN nq = wz at *
          go_wp2_with fail
          go_roundw
          case rel => exact ⟨k + 1, HKI.out, by go_num, HBK2.out⟩
          case measure => have := HKI.out; simp [intOf]; omega
        · have hki2 : ¬ (k : Int) < (i : Int) := by omega
          have HB8 := Lib.hid (bthen HBX3.out HBK.out)
          clear hki
          go_wp2_with fail
          go_roundw
          case rel => exact ⟨i + 1, HIL.out, by go_num, HB8.out⟩
          case measure => have := HIL.out; simp [intOf]; omega
    · have g1 : decide (1 ≤ nv) = true := decide_eq_true hnn1
      have g4 : decide (nv ≤ 4) = true := decide_eq_true hnn4
      have HB9 := Lib.hid (bthen HB2.out HBR.out)
      go_wp2_with fail
      go_ret
      exact ⟨rfl, HB9.out⟩
theorem places_all (l : List Sg) (e : Int) (A : Option Addr) (nv cap : Nat) (w : World) (hS : Segs w (.slice A nv cap) l) (hI : ∀ s ∈ l, SgIn s) :
    Calls Try.prog 8 #[.agg #[.int .u64 e, .slice A nv cap]] w fun r w' => r = .returned (.bool true) ∧ Below w.heap.size w w' := by
  cases hm : mayB l e with
  | false => exact places_no l e A nv cap w hS hI hm
  | true => exact places_yes l e A nv cap w hS hI hm
end Go.Proofs.Ythaieajakdcodaa
