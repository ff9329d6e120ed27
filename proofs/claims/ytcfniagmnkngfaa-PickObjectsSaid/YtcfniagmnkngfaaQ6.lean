/- The reference of package pick: may files be linked? -/
import Derived.Test.YtcfniagmnkngfaaQ5
import Derived.Test.YtcfniagmnkngfaaT3
namespace Go.Proofs.Ytcfniagmnkngfaa
open Go.RowKit

set_option maxRecDepth 100000 in
set_option maxHeartbeats 8000000 in
theorem refPickCheck_any (l : List Fl) (A : Option Addr) (n c : Nat) (w : World) (hn : l.length = n) (h9 : n ≤ 9223372036854775807) (hok : ∀ f ∈ l, FlOk f) (hw : ∀ f ∈ l, ∀ m ∈ f.m, MdW m) (hS : Files w (.slice A n c) l) :
    Calls Try.prog 33 #[.slice A n c] w fun e w' => e = .returned (.int .i64 (pickE l)) ∧ Below w.heap.size w w' := by
  have HS := Lib.hid hS
  have HN := Lib.hid (show l.length ≤ n ∧ n ≤ l.length by omega)
  have HOK := Lib.hid hok
  have HW := Lib.hid hw
  have n1 : (n : Int) ≤ 9223372036854775807 := by omega
  have HSL := Lib.hid (fun (h8 : n ≤ 8) (k : Nat) => (show sumM (l.take k) ≤ 9223372036854775800 from by
    have h1 := sumM_le (l := l.take k) (fun f hf => hok f (List.mem_of_mem_take hf))
    rw [List.length_take] at h1
    omega))
  obtain ⟨V, hV⟩ : ∃ V, pickE l = V := ⟨_, rfl⟩
  have HE := Lib.hid (show V = if 8 < n ∨ 16 < sumM l then 4 else if oneB l = false then 1 else firstE (modsL l) by rw [← hV, ← hn]; rfl)
  rw [hV]
  clear hS hok hw hV hn h9
  go_enter Try.func33, Try.ntmps33
  go_wp2_with fail
  go_loopw [3, 4] (fun nv iv wr => ∃ (i : Nat) (z : Int), i ≤ n ∧ iv = .int .i64 i ∧ nv = .int .i64 z ∧ (n ≤ 8 → z = sumM (l.take i)) ∧ w = wr) (fun _ iv _ => n - (intOf iv).toNat)
  case atStart => exact ⟨0, 0, Nat.zero_le _, rfl, rfl, fun _ => rfl, rfl⟩
  case round =>
    obtain ⟨i, z, hi, rfl, rfl, hs, rfl⟩ := hrel
    have HT := Lib.hid hs
    clear hs
    by_cases hlt : i < n
    · have hm : i < l.length := by have := HN.out; omega
      obtain ⟨b1, off, hA, hbl, e0⟩ := RowOf.at_ HS.out hm
      subst hA
      obtain ⟨-, A3, z3, g1, -⟩ := e0
      have HSU := Lib.hid (sumM_take hm)
      obtain ⟨x1, h1⟩ : ∃ z, l[i].m.length = z := ⟨_, rfl⟩
      rw [h1] at g1 HSU
      have HNX := Lib.hid (show n ≤ 8 → IntKind.i64.wrap (z + (x1 : Int)) = sumM (l.take (i + 1)) from fun h8 => by
        have h2 := HSL.out h8 (i + 1)
        rw [HT.out h8, HSU.out, IntKind.wrap_i64]
        rw [HSU.out] at h2
        omega)
      have hk0 : (0 : Int) ≤ (i : Int) := Int.natCast_nonneg _
      have hk1 : (i : Int) < (n : Int) := by omega
      have HLT := Lib.hid hlt
      clear h1 hm hlt hbl
      go_wp2_with fail
      go_roundw
      case rel => exact ⟨i + 1, _, HLT.out, by go_num, rfl, (by intro h; rw [← HNX.out h, IntKind.wrap_i64]; unfold wrap64; omega), trivial⟩
      case measure => have := HLT.out; simp [intOf]; omega
    · have hd : decide ((i : Int) < (n : Int)) = false := by simp; omega
      have HZ := Lib.hid (show n ≤ 8 → z = sumM l from fun h => by rw [HT.out h, List.take_of_length_le (by have := HN.out; omega)])
      by_cases h8 : 8 < n
      · have t : decide ((8 : Int) < (n : Int)) = true := decide_eq_true (by omega)
        have t' : decide (8 < n) = true := decide_eq_true h8
        have HV := Lib.hid (show V = 4 by rw [HE.out, if_pos (.inl h8)])
        go_wp2_with fail
        go_ret
        exact ⟨by rw [HV.out]; rfl, Below.refl _ _⟩
      have t : decide ((8 : Int) < (n : Int)) = false := decide_eq_false (by omega)
      have t' : decide (8 < n) = false := decide_eq_false h8
      have hz := HZ.out (by omega)
      subst hz
      obtain ⟨S, hSS⟩ : ∃ S, sumM l = S := ⟨_, rfl⟩
      rw [hSS] at HE ⊢
      clear HZ HT
      by_cases h16 : 16 < S
      · have u : decide ((16 : Int) < (S : Int)) = true := decide_eq_true (by omega)
        have u' : decide (16 < S) = true := decide_eq_true h16
        have HV := Lib.hid (show V = 4 by rw [HE.out, if_pos (.inr h16)])
        go_wp2_with fail
        go_ret
        exact ⟨by rw [HV.out]; rfl, Below.refl _ _⟩
      have u : decide ((16 : Int) < (S : Int)) = false := decide_eq_false (by omega)
      have u' : decide (16 < S) = false := decide_eq_false h16
      have HE2 := Lib.hid (show V = if oneB l = false then 1 else firstE (modsL l) by rw [HE.out, if_neg (by omega)])
      clear hSS
      go_wp2_with fail
      go_loopw [5] (fun iv wr => ∃ i : Nat, i ≤ n ∧ iv = .int .i64 i ∧ oneB (l.take i) = true ∧ w = wr) (fun iv _ => n - (intOf iv).toNat)
      case atStart => exact ⟨0, Nat.zero_le _, rfl, rfl, rfl⟩
      case round =>
        obtain ⟨i, hi, rfl, hs, rfl⟩ := hrel
        have HT := Lib.hid hs
        clear hs
        by_cases hlt : i < n
        · have hm : i < l.length := by have := HN.out; omega
          obtain ⟨b1, off, hA, hbl, e0⟩ := RowOf.at_ HS.out hm
          subst hA
          obtain ⟨g0, A3, z3, g1, -⟩ := e0
          have HNX := Lib.hid (show oneB (l.take (i + 1)) = (l[i].a || l[i].m.length == 1) from pall_take hm HT.out)
          have HNO := Lib.hid (show (l[i].a || l[i].m.length == 1) = false → V = 1 from fun h => by rw [HE2.out, if_pos (show oneB l = false from pall_no (p := fun f : Fl => f.a || f.m.length == 1) hm h)])
          obtain ⟨x0, h0⟩ : ∃ z, l[i].a = z := ⟨_, rfl⟩
          obtain ⟨x1, h1⟩ : ∃ z, l[i].m.length = z := ⟨_, rfl⟩
          rw [h0] at g0 HNX HNO
          rw [h1] at g1 HNX HNO
          have hk0 : (0 : Int) ≤ (i : Int) := Int.natCast_nonneg _
          have hk1 : (i : Int) < (n : Int) := by omega
          have HLT := Lib.hid hlt
          clear h0 h1 hm hlt hbl
          cases x0 with
          | true =>
            have HV := Lib.hid (show oneB (l.take (i + 1)) = true by rw [HNX.out]; rfl)
            go_wp2_with fail
            go_roundw
            case rel => exact ⟨i + 1, HLT.out, by go_num, HV.out, trivial⟩
            case measure => have := HLT.out; simp [intOf]; omega
          | false =>
            by_cases hx : x1 = 1
            · subst hx
              have HV := Lib.hid (show oneB (l.take (i + 1)) = true by rw [HNX.out]; rfl)
              go_wp2_with fail
              go_roundw
              case rel => exact ⟨i + 1, HLT.out, by go_num, HV.out, trivial⟩
              case measure => have := HLT.out; simp [intOf]; omega
            · have n2 : (x1 == 1) = false := by simpa using hx
              have n2' : ((x1 : Int) == 1) = false := by simp; omega
              have HV := Lib.hid (HNO.out (by rw [n2]; rfl))
              go_wp2_with fail
              go_ret
              exact ⟨by rw [HV.out]; rfl, Below.refl _ _⟩
        · have hd : decide ((i : Int) < (n : Int)) = false := by simp; omega
          have HV := Lib.hid (show V = firstE (modsL l) by
            have h := HT.out
            rw [List.take_of_length_le (by have := HN.out; omega)] at h
            rw [HE2.out, h]; rfl)
          clear HT HE2 HE
          go_wp2_with fail
          go_loopw [6] (fun iv wr => ∃ i : Nat, i ≤ n ∧ iv = .int .i64 i ∧ firstE (modsT l i) = 0 ∧ Below w.heap.size w wr) (fun iv _ => n - (intOf iv).toNat)
          case atStart => exact ⟨0, Nat.zero_le _, rfl, rfl, Below.refl _ _⟩
          case round =>
            obtain ⟨i, hi, rfl, hs, hb⟩ := hrel
            have HT := Lib.hid hs
            have HB := Lib.hid hb
            clear hb hs
            by_cases hlt : i < n
            · have hm : i < l.length := by have := HN.out; omega
              obtain ⟨b1, off, hA, hbl, e0⟩ := RowOf.at_ HS.out hm
              subst hA
              have HSU := Lib.hid (modsT_succ hm)
              have hfo := HOK.out _ (List.getElem_mem hm)
              have hfw := HW.out _ (List.getElem_mem hm)
              obtain ⟨⟨x0, ms⟩, hx⟩ : ∃ z, l[i] = z := ⟨_, rfl⟩
              rw [hx] at e0 HSU hfo hfw
              simp only at HSU hfw
              have HFO := Lib.hid hfo.2
              have HFW := Lib.hid hfw
              have h60 := hfo.1
              simp only at h60
              obtain ⟨-, A3, z3, q1, hmods⟩ := e0
              simp only at q1 hmods
              obtain ⟨x1, h1⟩ : ∃ z, ms.length = z := ⟨_, rfl⟩
              rw [h1] at q1 hmods h60
              have HM := Lib.hid hmods
              have HC1 := Lib.hid (fun (U : World) (hU : Below w.heap.size w U) => (cellNext hbl hU _).trans q1)
              have HML := Lib.hid (show ms.length ≤ x1 ∧ x1 ≤ ms.length by omega)
              have HPRE := Lib.hid (fun (k : Nat) => (show modsT l i ++ ms.take k <+: modsL l from List.IsPrefix.trans (by rw [HSU.out]; exact (List.prefix_append_right_inj _).2 (List.take_prefix _ _)) (modsT_pre l (i + 1))))
              have x19 : (x1 : Int) ≤ 9223372036854775807 := by omega
              have hk0 : (0 : Int) ≤ (i : Int) := Int.natCast_nonneg _
              have hk1 : (i : Int) < (n : Int) := by omega
              have HLT := Lib.hid hlt
              clear h1 hm hlt hbl hmods hfo hfw hx h60 q1
              go_wp2_with fail
              go_loopw [7] (fun kv wi => ∃ k : Nat, k ≤ x1 ∧ kv = .int .i64 k ∧ firstE (modsT l i ++ ms.take k) = 0 ∧ Below w.heap.size w wi) (fun kv _ => x1 - (intOf kv).toNat)
              case atStart => exact ⟨0, Nat.zero_le _, rfl, by rw [List.take_zero, List.append_nil]; exact HT.out, HB.out⟩
              case round =>
                obtain ⟨k, hk, rfl, hs, hb⟩ := hrel
                have HT2 := Lib.hid hs
                have HB3 := Lib.hid hb
                clear hs
                have g1 := HC1.out _ hb
                by_cases hlk : k < x1
                · have hkm : k < ms.length := by have := HML.out; omega
                  obtain ⟨b2, off2, hA2, hbl2, e2⟩ := RowOf.at_ (HM.out.next hb) hkm
                  subst hA2
                  obtain ⟨F, cf, G, cg, p0, p1, hmd⟩ := e2
                  have HC := Lib.hid (fun (U : World) (hU : Below _ _ U) => refCheck_any ms[k] F G _ cf _ cg U (HFO.out _ (List.getElem_mem hkm)) (HFW.out _ (List.getElem_mem hkm)) rfl rfl (hmd.next hU))
                  have HNX := Lib.hid (show firstE (modsT l i ++ ms.take (k + 1)) = checkE ms[k] by
                    rw [List.take_succ_eq_append_getElem hkm, ← List.append_assoc, firstE_app, if_pos HT2.out, firstE]
                    split
                    · rename_i h; rw [h]; rfl
                    · rfl)
                  have HP1 := Lib.hid (HPRE.out (k + 1))
                  obtain ⟨q, hq⟩ : ∃ q, checkE ms[k] = q := ⟨_, rfl⟩
                  obtain ⟨nf, hnf⟩ : ∃ q, ms[k].f.length = q := ⟨_, rfl⟩
                  obtain ⟨ng, hng⟩ : ∃ q, ms[k].g.length = q := ⟨_, rfl⟩
                  rw [hq, hnf, hng] at HC
                  rw [hq] at HNX
                  rw [hnf] at p0
                  rw [hng] at p1
                  have HQ0 := Lib.hid (show q ≠ 0 → V = q from fun h => by rw [HV.out, firstE_pre HP1.out (by rw [HNX.out]; exact h), HNX.out])
                  have q0 : (0 : Int) ≤ (k : Int) := Int.natCast_nonneg _
                  have q1 : (k : Int) < (x1 : Int) := by omega
                  have HLK := Lib.hid hlk
                  clear hq hnf hng hmd hkm hlk hb hbl2
                  go_wp2_with fail
                  refine (HC.out _ (Below.refl _ _)).mono ?_
                  rintro r w3 ⟨rfl, hb3⟩
                  have HB4 := Lib.hid (bthen HB3.out hb3)
                  clear hb3 p0 p1 g1
                  by_cases hz : q = 0
                  · subst hz
                    go_wp2_with fail
                    go_roundw
                    case rel => exact ⟨k + 1, HLK.out, by go_num, HNX.out, HB4.out⟩
                    case measure => have := HLK.out; simp [intOf]; omega
                  · have n4 : (q == 0) = false := by simpa using hz
                    have HV2 := Lib.hid (HQ0.out hz)
                    go_wp2_with fail
                    go_ret
                    exact ⟨by rw [HV2.out]; rfl, HB4.out⟩
                · have hd : decide ((k : Int) < (x1 : Int)) = false := by simp; omega
                  have HV2 := Lib.hid (show firstE (modsT l (i + 1)) = 0 by
                    have h := HT2.out
                    rwa [List.take_of_length_le (by have := HML.out; omega), ← HSU.out] at h)
                  go_wp2_with fail
                  go_roundw
                  case rel => exact ⟨i + 1, HLT.out, by go_num, HV2.out, HB3.out⟩
                  case measure => have := HLT.out; simp [intOf]; omega
            · have hd : decide ((i : Int) < (n : Int)) = false := by simp; omega
              have HV2 := Lib.hid (show V = 0 by rw [HV.out, ← modsT_all (k := i) (by have := HN.out; omega)]; exact HT.out)
              go_wp2_with fail
              go_ret
              exact ⟨by rw [HV2.out]; rfl, HB.out⟩
end Go.Proofs.Ytcfniagmnkngfaa
