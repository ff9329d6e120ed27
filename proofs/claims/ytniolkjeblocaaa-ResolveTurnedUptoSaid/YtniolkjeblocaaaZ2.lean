/- Package resolve: ResolveOne. -/
import Derived.Test.YtniolkjeblocaaaZ1
namespace Go.Proofs.Ytniolkjeblocaaa
open Go.RowKit

theorem allI_mod (ms : List Md) : ∀ x ∈ allI ms ms.length, 0 ≤ x.o ∧ x.o < (ms.length : Int) := by
  intro x hx
  unfold allI at hx
  obtain ⟨l, hl, hxl⟩ := List.mem_flatten.1 hx
  obtain ⟨⟨m, i⟩, hp, rfl⟩ := List.mem_map.1 hl
  have hp2 := List.mem_of_mem_take hp
  have hi : i < ms.length := by
    have := List.mem_zipIdx hp2
    simp at this
    exact this.1
  unfold itemsOf at hxl
  have e : x.o = (i : Int) := by
    rcases List.mem_append.1 hxl with h | h
    · obtain ⟨f, hf, rfl⟩ := List.mem_map.1 h
      rfl
    · obtain ⟨g, hg, rfl⟩ := List.mem_map.1 h
      rfl
  rw [e]
  exact ⟨Int.natCast_nonneg _, by omega⟩
theorem fstO_mem {p : Ri → Bool} {d : Int} {xs : List Ri} (Q : Int → Prop) (hd : Q d) (hx : ∀ x ∈ xs, Q x.o) : Q (fstO p d xs) := by
  unfold fstO
  cases hf : xs.find? p with
  | none => exact hd
  | some z => exact hx z (List.mem_of_find?_eq_some hf)
theorem grp_sub {xs : List Ri} {g : Gp} (h : g ∈ grp xs) : ∀ x ∈ g.l, x ∈ xs ∧ x.s = g.s := by
  rw [grp_eq] at h
  obtain ⟨s, hs, rfl⟩ := List.mem_map.1 h
  intro x hx
  have h := List.mem_filter.1 hx
  exact ⟨h.1, (jba_beq _ _).1 h.2⟩
theorem defG_mod (ms : List Md) {g : Gp} (h : g ∈ grp (allI ms ms.length)) : 0 ≤ (defG g).o ∧ (defG g).o < (ms.length : Int) := by
  obtain ⟨y, hy, -⟩ := grp_some h
  have hin : ∀ x ∈ g.l, 0 ≤ x.o ∧ x.o < (ms.length : Int) := fun x hx => allI_mod ms x (grp_sub h x hx).1
  have hym : y ∈ g.l := List.mem_of_getElem? hy
  show 0 ≤ (g.l[pickI g.l]?.map (·.o)).getD 0 ∧ (g.l[pickI g.l]?.map (·.o)).getD 0 < (ms.length : Int)
  rw [pick_fst hy]
  split
  · rename_i hs
    obtain ⟨z, hz, e⟩ := List.any_eq_true.1 hs
    cases hf : g.l.find? seB with
    | none => exact absurd e (List.find?_eq_none.1 hf z hz)
    | some z => rw [fstO_some hf]; exact hin z (List.mem_of_find?_eq_some hf)
  · exact fstO_mem (fun o => 0 ≤ o ∧ o < (ms.length : Int)) (hin y hym) hin
theorem allD_names (xs : List Ri) : ((grp xs).map defG).map (·.s) = namesU xs := by
  rw [List.map_map, ← grp_names]
  rfl
set_option maxRecDepth 100000 in
set_option maxHeartbeats 8000000 in
theorem one_all (ms : List Md) (A : Option Addr) (c : Nat) (w : World) (hok : ∀ m ∈ ms, MdOk m) (hsum : (ms.map fun m => m.f.length + m.g.length).sum ≤ 1048576) (hlen : ms.length ≤ 1048576) (hS : Mods w (.slice A ms.length c) ms) :
    Calls Try.prog 5 #[.slice A ms.length c] w fun e w' => e = .returned (.bool true) ∧ Below w.heap.size w w' := by
  have hT := allI_fit hsum
  have HAL := Lib.hid (fun (U : World) (hU : Below w.heap.size w U) => all_any ms A ms.length c U rfl (by omega) hok hT (hS.next hU))
  have HNA := Lib.hid (fun (U : World) (hU : Below w.heap.size w U) => names_any ms A ms.length c U rfl (by omega) hok hT (hS.next hU))
  obtain ⟨ns, hns⟩ : ∃ ns, namesU (allI ms ms.length) = ns := ⟨_, rfl⟩
  have HND := Lib.hid (show ns.Nodup by rw [← hns]; exact namesU_nodup _)
  have HU9 := Lib.hid (show ns.length ≤ 9223372036854775807 by rw [← hns]; have := namesU_le (allI ms ms.length); omega)
  have HNS := Lib.hid (show ((grp (allI ms ms.length)).map defG).map (·.s) = ns by rw [allD_names]; exact hns)
  have HMD := Lib.hid (show ∀ d ∈ (grp (allI ms ms.length)).map defG, 0 ≤ d.o ∧ d.o < (ms.length : Int) from fun d hd => by
    obtain ⟨g, hg, rfl⟩ := List.mem_map.1 hd
    exact defG_mod ms hg)
  rw [hns] at HNA
  obtain ⟨G, hG⟩ : ∃ G, grp (allI ms ms.length) = G := ⟨_, rfl⟩
  rw [hG] at HAL HNS HMD
  obtain ⟨E, hE⟩ : ∃ E, tblE G = E := ⟨_, rfl⟩
  rw [hE] at HAL
  obtain ⟨nm, hnm⟩ : ∃ n, ms.length = n := ⟨_, rfl⟩
  have hnm9 : (nm : Int) ≤ 9223372036854775807 := by omega
  rw [hnm] at HAL HNA HMD ⊢
  clear hE hns hnm hT hok hsum hlen hS hG
  go_enter Try.func5, Try.ntmps5
  go_wp2_with fail
  refine (rshown_any w).mono ?_
  rintro r w1 ⟨rfl, hb1⟩
  have HB1 := Lib.hid hb1
  clear hb1
  go_wp2_with fail
  refine (HAL.out _ HB1.out).mono ?_
  rintro r w2 ⟨v1, rfl, hd1, hb2⟩
  have HB2 := Lib.hid (bthen HB1.out hb2)
  have HD1 := Lib.hid hd1
  clear hd1 hb2
  go_wp2_with fail
  refine (HNA.out _ HB2.out).mono ?_
  rintro r w3 ⟨v3, rfl, hs3, hb3⟩
  have HB3 := Lib.hid (bthen HB2.out hb3)
  have hd3 := HD1.out.next hb3
  obtain ⟨A3, c3, e3⟩ := hs3.slice
  obtain ⟨n, hn⟩ : ∃ n, ns.length = n := ⟨_, rfl⟩
  rw [hn] at e3 HU9
  subst e3
  by_cases hE0 : E = 0
  case neg =>
    rw [allD_no hE0] at hd3
    obtain ⟨A1, c1, e1⟩ := hd3.slice
    subst e1
    clear hd3 hs3 hb3 hn
    go_wp2_with fail
    go_ret
    exact ⟨rfl, HB3.out⟩
  subst hE0
  rw [allD_ok] at hd3
  obtain ⟨A1, c1, e1⟩ := hd3.slice
  obtain ⟨L, hL⟩ : ∃ L, G.map defG = L := ⟨_, rfl⟩
  rw [hL] at hd3 e1 HNS HMD
  have hLn : L.length = n := by rw [← hn, ← HNS.out, List.length_map]
  rw [hLn] at e1
  subst e1
  have HD3 := Lib.hid hd3
  have HS3 := Lib.hid hs3
  have HN := Lib.hid (show ns.length ≤ n ∧ n ≤ ns.length by omega)
  have HLN := Lib.hid (show L.length ≤ n ∧ n ≤ L.length by omega)
  have n9 : (n : Int) ≤ 9223372036854775807 := by have := HU9.out; omega
  clear hd3 hs3 hb3 hn hL hLn HD1 HAL HNA
  go_wp2_with fail
  go_loopw [7] (fun iv wr => ∃ i : Nat, i ≤ n ∧ iv = .int .i64 i ∧ Below w3.heap.size w3 wr) (fun iv _ => n - (intOf iv).toNat)
  case atStart => exact ⟨0, Nat.zero_le _, rfl, Below.refl _ _⟩
  case round =>
    obtain ⟨i, hi, rfl, hb⟩ := hrel
    have HB := Lib.hid hb
    by_cases hlt : i < n
    case neg =>
      have hd : decide ((i : Int) < (n : Int)) = false := by simp; omega
      clear hb
      go_wp2_with fail
      go_ret
      exact ⟨rfl, bthen HB3.out HB.out⟩
    have hm : i < ns.length := by have := HN.out; omega
    have hl : i < L.length := by have := HLN.out; omega
    obtain ⟨b1, off1, hA1, hbl1, g0, g1, -⟩ := RowOf.at_ (HD3.out.next hb) hl
    subst hA1
    obtain ⟨b2, off2, hA2, hbl2, g2⟩ := RowOf.at_ (HS3.out.next hb) hm
    subst hA2
    rw [Nat.mul_one] at g2
    have hname : L[i].s = ns[i] := by
      have h := HNS.out
      have h2 : (L.map (·.s))[i]'(by simpa using hl) = ns[i] := by simp only [h]
      rwa [List.getElem_map] at h2
    obtain ⟨o0, o1⟩ := HMD.out _ (List.getElem_mem hl)
    rw [hname] at g0
    have HSI := Lib.hid (show ∀ k (hk : k < ns.length), k < i → ns[k] ≠ ns[i] from fun k hk hki e => by have := nodup_at HND.out hk hm e; omega)
    obtain ⟨s, hs⟩ : ∃ s, ns[i] = s := ⟨_, rfl⟩
    obtain ⟨o, ho⟩ : ∃ o, L[i].o = o := ⟨_, rfl⟩
    rw [hs] at g0 g2 HSI
    rw [ho] at g1 o0 o1
    have hst : (s.toList == s.toList) = true := by simp
    have hss : (s == s) = true := ba_refl s
    have d1 : decide (o < 0) = false := by simpa using o0
    have d2 : decide ((nm : Int) ≤ o) = false := by simpa using o1
    have i0 : (0 : Int) ≤ (i : Int) := Int.natCast_nonneg _
    have i1 : (i : Int) < (n : Int) := by omega
    have HLT := Lib.hid hlt
    have HIS := Lib.hid (fun (h : i < ns.length) => (show ns[i] = s from hs))
    clear hlt hl hm hs ho hname hbl1 hbl2 hb
    go_wp2_with fail
    go_quiet (fail)
    have HBQ := Lib.hid (bthen HB.out (drewN_below' wr nq))
    clear g0 g1 g2 d1 d2 o0 o1
    generalize wr.drewN nq = wq at *
    go_wp2_with fail
    go_loopw [8] (fun kv wi => ∃ k : Nat, k ≤ i ∧ kv = .int .i64 k ∧ Below w3.heap.size w3 wi) (fun kv _ => i - (intOf kv).toNat)
    case atStart => exact ⟨0, Nat.zero_le _, rfl, HBQ.out⟩
    case round =>
      obtain ⟨k, hk, rfl, hbi⟩ := hrel
      have HBI := Lib.hid hbi
      by_cases hlk : k < i
      case neg =>
        have hd2 : decide ((k : Int) < (i : Int)) = false := by simp; omega
        clear hbi
        go_wp2_with fail
        go_roundw
        case rel => exact ⟨i + 1, HLT.out, by go_num, HBI.out⟩
        case measure => have := HLT.out; simp [intOf]; omega
      have hkm : k < ns.length := by have := HN.out; have := HLT.out; omega
      have him : i < ns.length := by have := HN.out; have := HLT.out; omega
      obtain ⟨b3, off3, hA3, hbl3, p1⟩ := RowOf.at_ (HS3.out.next hbi) hkm
      obtain ⟨b4, off4, hA4, hbl4, p2⟩ := RowOf.at_ (HS3.out.next hbi) him
      have eA := Option.some.inj hA3
      simp only [Addr.mk.injEq, and_true] at eA
      obtain ⟨eb, eo⟩ := eA
      subst eb eo
      have eA := Option.some.inj hA4
      simp only [Addr.mk.injEq, and_true] at eA
      obtain ⟨eb, eo⟩ := eA
      subst eb eo
      rw [Nat.mul_one] at p1 p2
      have hne := HSI.out k hkm hlk
      rw [HIS.out him] at p2
      obtain ⟨t, ht⟩ : ∃ t, ns[k] = t := ⟨_, rfl⟩
      rw [ht] at p1 hne
      obtain ⟨hs1, hs2⟩ := str_otherD hne
      have j0 : (0 : Int) ≤ (k : Int) := Int.natCast_nonneg _
      have j1 : (k : Int) < (n : Int) := by omega
      have HLK := Lib.hid hlk
      have j9 : (i : Int) ≤ 9223372036854775807 := by omega
      clear hne ht hkm him hlk hbl3 hbl4 hbi hA3 hA4
      go_wp2_with fail
      go_quiet (fail)
      have HBR := Lib.hid (bthen HBI.out (drewN_below' wr nq))
      go_wp2_with fail
      go_roundw
      case rel => exact ⟨k + 1, HLK.out, by go_num, HBR.out⟩
      case measure => have := HLK.out; simp [intOf]; omega
end Go.Proofs.Ytniolkjeblocaaa
