/- PickDone: at the end no archive has a module that defines what is wanted, and that nothing taken defines: the walk. -/
import Derived.Test.YtcfniagmnkngfaaRD
import Derived.Test.YtcfniagmnkngfaaRE
namespace Go.Proofs.Ytcfniagmnkngfaa
open Go.RowKit

theorem steps_in {L : List (Bool × Md)} {s : Tk} (h : Steps L (begT L) s) : ∀ k (hk : k < L.length), s.t k = true → L[k].2 ∈ s.r := by
  induction h with
  | refl =>
    intro k hk ht
    simp only [begT, List.getElem?_eq_getElem hk] at ht
    exact List.mem_map_of_mem (List.mem_filter.2 ⟨List.getElem_mem hk, ht⟩)
  | step _ h2 ih =>
    obtain ⟨j, hj, -, -, -, rfl⟩ := h2
    intro k hk ht
    simp only [Bool.or_eq_true, beq_iff_eq] at ht
    rcases ht with rfl | ht
    · simp
    · exact List.mem_append_left _ (ih k hk ht)
theorem open_in {r : List Md} {m : Md} (h : m ∈ r) : openB r m = false := by
  unfold openB
  rw [List.any_eq_false]
  intro s hs
  have : defB r s = true := List.any_eq_true.2 ⟨m, h, List.any_eq_true.2 ⟨s, hs, jba_refl s⟩⟩
  simp [this]
theorem taken_closed {l : List Fl} {r : List Md} (h : Taken (flat l) r) {i k : Nat} (hi : i < l.length) (hk : k < l[i].m.length) : openB r l[i].m[k] = false := by
  obtain ⟨s, h1, h2, rfl⟩ := h
  have hlt := off_lt hi hk
  have hg := flat_get hi hk
  rcases h2 _ hlt with h3 | h3
  · have := steps_in h1 _ hlt h3
    rw [hg] at this
    exact open_in this
  · rwa [hg] at h3
theorem taken_ok {l : List Fl} {r : List Md} (g : Good l) (h : Taken (flat l) r) : (∀ m ∈ r, MdS m) ∧ r.length ≤ 16 := by
  obtain ⟨s, h1, -, rfl⟩ := h
  exact taken_mdS g h1
set_option maxRecDepth 100000 in
set_option maxHeartbeats 8000000 in
theorem done_all (l : List Fl) (A : Option Addr) (c : Nat) (w : World) (hok : ∀ f ∈ l, FlW f) (h9 : l.length ≤ 9223372036854775807) (hS : Files w (.slice A l.length c) l) :
    Calls Try.prog 6 #[.slice A l.length c] w fun e w' => e = .returned (.bool true) ∧ Below w.heap.size w w' := by
  have HS := Lib.hid hS
  have HT := Lib.hid (fun (U : World) (hU : Below w.heap.size w U) => pickTake_any l A l.length c U rfl h9 (fun f hf => (hok f hf).1) (hS.next hU))
  obtain ⟨n, hn⟩ : ∃ n, l.length = n := ⟨_, rfl⟩
  rw [hn] at HT HS ⊢
  have HN := Lib.hid (show l.length ≤ n ∧ n ≤ l.length by omega)
  have n1 : (n : Int) ≤ 9223372036854775807 := by omega
  clear hok h9 hS hn
  go_enter Try.func6, Try.ntmps6
  go_wp2_with fail
  refine (pshown_any w).mono ?_
  rintro r w1 ⟨rfl, hb1⟩
  have HB1 := Lib.hid hb1
  have HT1 := Lib.hid (HT.out w1 hb1)
  clear hb1 HT
  go_wp2_with fail
  refine HT1.out.mono ?_
  rintro r w2 ⟨hb2, ⟨hne, rfl⟩ | ⟨hg, rr, A2, c2, htk, rfl, hmods, -⟩⟩
  · have HB2 := Lib.hid (bthen HB1.out hb2)
    obtain ⟨V, hV⟩ : ∃ V, pickE l = V := ⟨_, rfl⟩
    rw [hV] at hne ⊢
    have hz1 : (V != 0) = true := by simpa using hne
    clear hb2 HT1 hne hV
    go_wp2_with fail
    go_ret
    exact ⟨rfl, HB2.out⟩
  have HB2 := Lib.hid (bthen HB1.out hb2)
  have HG := Lib.hid hg
  have HTK := Lib.hid htk
  have HMO := Lib.hid hmods
  have HRR := Lib.hid (taken_ok hg htk)
  obtain ⟨nr, hnr⟩ : ∃ q, rr.length = q := ⟨_, rfl⟩
  rw [hnr] at HMO HRR ⊢
  have HNR := Lib.hid hnr
  clear hb2 HT1 hg htk hmods hnr
  go_wp2_with fail
  go_loopw [6] (fun iv wr => ∃ i : Nat, i ≤ n ∧ iv = .int .i64 i ∧ Below w2.heap.size w2 wr) (fun iv _ => n - (intOf iv).toNat)
  case atStart => exact ⟨0, Nat.zero_le _, rfl, Below.refl _ _⟩
  case round =>
    obtain ⟨i, hi, rfl, hb⟩ := hrel
    have HB := Lib.hid hb
    clear hb
    by_cases hlt : i < n
    · have hm : i < l.length := by have := HN.out; omega
      obtain ⟨bf, off, hA, hbl, e0⟩ := RowOf.at_ (HS.out.next (bthen HB2.out HB.out)) hm
      subst hA
      obtain ⟨g0, A3, z3, g1, hmods⟩ := e0
      have HM := Lib.hid hmods
      have HMI := Lib.hid (show i < l.length ∧ i < l.length from ⟨hm, hm⟩)
      obtain ⟨x0, h0⟩ : ∃ z, l[i].a = z := ⟨_, rfl⟩
      obtain ⟨nm, h1⟩ : ∃ z, l[i].m.length = z := ⟨_, rfl⟩
      have HNM := Lib.hid (show (l[i]'(HMI.out.1)).m.length = nm from h1)
      rw [h0] at g0
      rw [h1] at g1
      have h16 := HG.out.len _ (List.getElem_mem hm)
      have m16 : (nm : Int) ≤ 16 := by omega
      have hk0 : (0 : Int) ≤ (i : Int) := Int.natCast_nonneg _
      have hk1 : (i : Int) < (n : Int) := by omega
      have HLT := Lib.hid hlt
      have HCW := Lib.hid (fun (U : World) (hU : Below wr.heap.size wr U) => (show U.cell? ⟨bf, off + i * 2, none⟩ = some (.bool x0) ∧ U.cell? ⟨bf, off + i * 2 + 1, none⟩ = some (.slice A3 nm z3) from ⟨(cellNext hbl hU _).trans g0, (cellNext hbl hU _).trans g1⟩))
      obtain ⟨WW, hWW⟩ : ∃ WW, wr = WW := ⟨_, rfl⟩
      have HBW := Lib.hid (Below.refl wr.heap.size wr)
      clear h0 h1 hlt hbl hmods h16 g0 g1
      go_wp2_with fail
      rw [hWW] at HBW HCW HM HB
      clear hWW
      go_loopw [7] (fun kv wx => ∃ k : Nat, k ≤ nm ∧ kv = .int .i64 k ∧ Below WW.heap.size WW wx) (fun kv _ => nm - (intOf kv).toNat)
      case atStart => exact ⟨0, Nat.zero_le _, rfl, HBW.out⟩
      case round =>
        obtain ⟨k, hk, rfl, hb⟩ := hrel
        have HBX := Lib.hid hb
        obtain ⟨f0, f1⟩ := HCW.out _ hb
        clear hb
        have kk0 : (0 : Int) ≤ (k : Int) := Int.natCast_nonneg _
        by_cases hlk : k < nm
        case neg =>
          have hd : decide ((k : Int) < (nm : Int)) = false := by simp; omega
          have HBB := Lib.hid (bthen HB.out HBX.out)
          go_wp2_with fail
          go_roundw
          case rel => exact ⟨i + 1, HLT.out, by go_num, HBB.out⟩
          case measure => have := HLT.out; simp [intOf]; omega
        have kk1 : (k : Int) < (nm : Int) := by omega
        have hd : decide ((k : Int) < (nm : Int)) = true := by simp; omega
        cases x0 with
        | false =>
          have HBB := Lib.hid (bthen HB.out HBX.out)
          go_wp2_with fail
          go_roundw
          case rel => exact ⟨i + 1, HLT.out, by go_num, HBB.out⟩
          case measure => have := HLT.out; simp [intOf]; omega
        | true =>
          have hm := HMI.out.1
          have hkk : k < l[i].m.length := by have := HNM.out; omega
          obtain ⟨b2, of2, hA2, hbl2, F, cf, G, cg, q0, q1, hmd⟩ := RowOf.at_ (HM.out.next HBX.out) hkk
          subst hA2
          have hsm := check_small (HG.out.right _ (List.getElem_mem hm) _ (List.getElem_mem hkk))
          have HOP := Lib.hid (refOpen_any rr l[i].m[k] A2 F G rr.length c2 l[i].m[k].f.length cf l[i].m[k].g.length cg wr rfl (by have := HRR.out.2; have := HNR.out; omega) HRR.out.1 (mdSm_names hsm) rfl rfl (by rw [HNR.out]; exact HMO.out.next (bthen HB.out HBX.out)) hmd)
          rw [taken_closed HTK.out hm hkk, HNR.out] at HOP
          have HLK := Lib.hid hlk
          obtain ⟨nf, hnf⟩ : ∃ q, l[i].m[k].f.length = q := ⟨_, rfl⟩
          obtain ⟨ng, hng⟩ : ∃ q, l[i].m[k].g.length = q := ⟨_, rfl⟩
          rw [hnf, hng] at HOP
          rw [hnf] at q0
          rw [hng] at q1
          clear hnf hng hmd hsm hbl2 hlk
          go_wp2_with fail
          refine HOP.out.mono ?_
          rintro r w5 ⟨rfl, hb5⟩
          have HB5 := Lib.hid (bthen HBX.out hb5)
          clear hb5 HOP f0 f1 q0 q1
          go_wp2_with fail
          go_roundw
          case rel => exact ⟨k + 1, HLK.out, by go_num, HB5.out⟩
          case measure => have := HLK.out; simp [intOf]; omega
    · have hd : decide ((i : Int) < (n : Int)) = false := by simp; omega
      have HBB := Lib.hid (bthen HB2.out HB.out)
      go_wp2_with fail
      go_ret
      exact ⟨rfl, HBB.out⟩
end Go.Proofs.Ytcfniagmnkngfaa
