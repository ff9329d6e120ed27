/- Package resolve: ResolveTells. -/
import Derived.Test.YtniolkjeblocaaaSD
import Derived.Test.YtniolkjeblocaaaH1
import Derived.Test.YtniolkjeblocaaaTH
import Derived.Test.YtniolkjeblocaaaSB
namespace Go.Proofs.Ytniolkjeblocaaa
open Go.RowKit

theorem ba_refl (s : ByteArray) : (s == s) = true := (jba_beq _ _).2 rfl
theorem listB_refl {α : Type} {p : α → α → Bool} (h : ∀ x, p x x = true) (l : List α) : listB p l l = true := by
  have key : ∀ l : List α, (l.zip l).all (fun x => p x.1 x.2) = true := by
    intro l
    induction l with
    | nil => rfl
    | cons x l ih => rw [List.zip_cons_cons, List.all_cons, h, ih]; rfl
  unfold listB
  simp [key]
theorem sameD_refl (x : Df) : sameD x x = true := by unfold sameD; simp [ba_refl]
theorem findD_none {s : ByteArray} {xs : List Df} (h : xs.find? (fun d => d.s == s) = none) : findD s xs = -1 := by
  refine findD_no ?_
  rw [List.any_eq_false]
  intro x hx
  exact List.find?_eq_none.1 h x hx
theorem findD_some {s : ByteArray} {xs : List Df} {d : Df} (h : xs.find? (fun d => d.s == s) = some d) : ∃ k, ∃ hk : k < xs.length, xs[k] = d ∧ findD s xs = (k : Int) := by
  rw [find_at] at h
  obtain ⟨hk, e⟩ := List.getElem?_eq_some_iff.1 h
  refine ⟨_, hk, e, ?_⟩
  unfold findD
  rw [if_pos]
  have := List.findIdx_lt_length.1 hk
  obtain ⟨x, hx, e⟩ := this
  exact List.any_eq_true.2 ⟨x, hx, e⟩
theorem allI_fit {ms : List Md} (h : (ms.map fun m => m.f.length + m.g.length).sum ≤ 1048576) : ((allI ms ms.length).length + 1) * 56 ≤ 140737488355328 := by
  have := allI_len ms
  omega
theorem allD_len (ms : List Md) (E : Int) : (allD (grp (allI ms ms.length)) E).length ≤ (allI ms ms.length).length := by
  unfold allD
  split
  · rw [List.length_map]; exact grp_len _
  · simp
set_option maxRecDepth 100000 in
set_option maxHeartbeats 8000000 in
theorem tells_all (ms : List Md) (A : Option Addr) (c : Nat) (name : ByteArray) (w : World) (hok : ∀ m ∈ ms, MdOk m) (hsum : (ms.map fun m => m.f.length + m.g.length).sum ≤ 1048576) (hlen : ms.length ≤ 1048576) (hS : Mods w (.slice A ms.length c) ms) :
    Calls Try.prog 4 #[.slice A ms.length c, .string name] w fun e w' => e = .returned (.bool true) ∧ Below w.heap.size w w' := by
  have hT := allI_fit hsum
  have HAL := Lib.hid (fun (U : World) (hU : Below w.heap.size w U) => all_any ms A ms.length c U rfl (by omega) hok hT (hS.next hU))
  have HRA := Lib.hid (fun (U : World) (hU : Below w.heap.size w U) => refAll9_any ms A ms.length c U rfl (by omega) hok hT (hS.next hU))
  have HNA := Lib.hid (fun (U : World) (hU : Below w.heap.size w U) => names_any ms A ms.length c U rfl (by omega) hok hT (hS.next hU))
  have HRN := Lib.hid (fun (U : World) (hU : Below w.heap.size w U) => refNames9_any ms A ms.length c U rfl (by omega) hok hT (hS.next hU))
  have HL9 := Lib.hid (show (allD (grp (allI ms ms.length)) (tblE (grp (allI ms ms.length)))).length ≤ 9223372036854775807 by have := allD_len ms (tblE (grp (allI ms ms.length))); omega)
  have HU9 := Lib.hid (show (namesU (allI ms ms.length)).length ≤ 9223372036854775807 by have := namesU_le (allI ms ms.length); omega)
  obtain ⟨L, hL⟩ : ∃ L, allD (grp (allI ms ms.length)) (tblE (grp (allI ms ms.length))) = L := ⟨_, rfl⟩
  rw [hL] at HAL HRA HL9
  obtain ⟨E, hE⟩ : ∃ E, tblE (grp (allI ms ms.length)) = E := ⟨_, rfl⟩
  rw [hE] at HAL HRA
  obtain ⟨ns, hns⟩ : ∃ ns, namesU (allI ms ms.length) = ns := ⟨_, rfl⟩
  rw [hns] at HNA HRN HU9
  obtain ⟨nm, hnm⟩ : ∃ n, ms.length = n := ⟨_, rfl⟩
  rw [hnm] at HAL HRA HNA HRN ⊢
  clear hL hE hns hnm hT hok hsum hlen hS
  go_enter Try.func4, Try.ntmps4
  go_wp2_with fail
  refine (rshown_any w).mono ?_
  rintro r w1 ⟨rfl, hb1⟩
  have HB1 := Lib.hid hb1
  clear hb1
  go_wp2_with fail
  refine (HAL.out _ HB1.out).mono ?_
  rintro r w2 ⟨v1, rfl, hd1, hb2⟩
  have HB2 := Lib.hid (bthen HB1.out hb2)
  have HD1 := Lib.hid hd1
  clear hd1 hb2
  go_wp2_with fail
  refine (HRA.out _ HB2.out).mono ?_
  rintro r w3 ⟨v2, rfl, hd2, hb3⟩
  have HB3 := Lib.hid (bthen HB2.out hb3)
  have hd1 := HD1.out.next hb3
  obtain ⟨A1, c1, e1⟩ := hd1.slice
  obtain ⟨A2, c2, e2⟩ := hd2.slice
  obtain ⟨n, hn⟩ : ∃ n, L.length = n := ⟨_, rfl⟩
  rw [hn] at e1 e2 HL9
  subst e1 e2
  have HN := Lib.hid (show L.length ≤ n ∧ n ≤ L.length by omega)
  have HD2 := Lib.hid hd2
  have HSA := Lib.hid (refSame9_any L L A1 A2 n c1 n c2 w3 hn hn HL9.out hd1 hd2)
  rw [listB_refl sameD_refl] at HSA
  have n9 : (n : Int) ≤ 9223372036854775807 := by have := HL9.out; omega
  clear hd1 hd2 hb3 hn HD1
  go_wp2_with fail
  refine HSA.out.mono ?_
  rintro r w4 ⟨rfl, hb4⟩
  have HB4 := Lib.hid (bthen HB3.out hb4)
  have HD4 := Lib.hid (HD2.out.next hb4)
  clear hb4
  go_wp2_with fail
  refine (HNA.out _ HB4.out).mono ?_
  rintro r w5 ⟨v5, rfl, hs5, hb5⟩
  have HB5 := Lib.hid (bthen HB4.out hb5)
  have HD5 := Lib.hid (HD4.out.next hb5)
  have HS5 := Lib.hid hs5
  clear hb5 hs5
  go_wp2_with fail
  refine (HRN.out _ HB5.out).mono ?_
  rintro r w6 ⟨v6, rfl, hs6, hb6⟩
  have HB6 := Lib.hid (bthen HB5.out hb6)
  have HD6 := Lib.hid (HD5.out.next hb6)
  have hs5 := HS5.out.next hb6
  obtain ⟨A5, c5, e5⟩ := hs5.slice
  obtain ⟨A6, c6, e6⟩ := hs6.slice
  obtain ⟨nn, hnn⟩ : ∃ n, ns.length = n := ⟨_, rfl⟩
  rw [hnn] at e5 e6 HU9
  subst e5 e6
  have HST := Lib.hid (refStrings_any ns ns A5 A6 nn nn c5 c6 w6 hnn hnn HU9.out hs5 hs6)
  rw [decide_eq_true (rfl : ns = ns)] at HST
  clear hb6 hs5 hs6 hnn
  go_wp2_with fail
  refine HST.out.mono ?_
  rintro r w7 ⟨rfl, hb7⟩
  have HB7 := Lib.hid (bthen HB6.out hb7)
  have HD7 := Lib.hid (HD6.out.next hb7)
  clear hb7
  have HFI := Lib.hid (find_any name L A2 n c2 w7 (by have := HN.out; omega) HL9.out HD7.out)
  have HRF := Lib.hid (fun (U : World) (hU : Below w7.heap.size w7 U) => refFind9_any name L A2 n c2 U (by have := HN.out; omega) HL9.out (HD7.out.next hU))
  cases hf : L.find? (fun d => d.s == name) with
  | none =>
    rw [hf] at HFI
    rw [findD_none hf] at HRF
    dsimp only at HFI
    clear hf
    go_wp2_with fail
    refine HFI.out.mono ?_
    rintro r w8 ⟨rfl, hb8⟩
    have HB8 := Lib.hid (bthen HB7.out hb8)
    have HA8 := Lib.hid (balloc (Below.refl _ w8) (.cells #[.string ⟨#[]⟩, .int .i64 0, .bool false, .bool false, .bool false] 49))
    have HX8 := Lib.hid (heap_alloc_new w8 (.cells #[.string ⟨#[]⟩, .int .i64 0, .bool false, .bool false, .bool false] 49))
    have HB78 := Lib.hid (bthen hb8 HA8.out)
    clear hb8
    go_wp2_with fail
    refine (HRF.out _ HB78.out).mono ?_
    rintro r w9 ⟨rfl, hb9⟩
    have HB9 := Lib.hid (bthen HB8.out (bthen HA8.out hb9))
    have hx := (hb9.block _ (by simp)).trans HX8.out
    have q0 := Lib.cell_of_heap hx 0
    have q1 := Lib.cell_of_heap hx 1
    have q2 := Lib.cell_of_heap hx 2
    have q3 := Lib.cell_of_heap hx 3
    have q4 := Lib.cell_of_heap hx 4
    simp only [List.getElem?_toArray, List.getElem?_cons_zero, List.getElem?_cons_succ] at q0 q1 q2 q3 q4
    clear hx hb9
    go_wp2_with fail
    go_quiet (fail)
    have HBQ := Lib.hid (bthen HB9.out (drewN_below' w9 nq))
    go_wp2_with fail
    go_ret
    exact ⟨by simp, HBQ.out⟩
  | some d =>
    rw [hf] at HFI
    obtain ⟨k, hk, hkd, hfd⟩ := findD_some hf
    rw [hfd] at HRF
    have HDF := Lib.hid (show dfV d = .agg #[.string d.s, .int .i64 d.o, .bool d.f, .bool d.w, .bool d.h] from rfl)
    dsimp only at HFI
    rw [HDF.out] at HFI
    obtain ⟨b, off, hA, hbl, g⟩ := RowOf.at_ HD7.out hk
    rw [hkd] at g
    subst hA
    have HGG := Lib.hid (fun (U : World) (hU : Below w7.heap.size w7 U) => DfIn.next _ _ _ _ _ hbl hU g)
    have k0 : (0 : Int) ≤ (k : Int) := Int.natCast_nonneg _
    have k1 : (k : Int) < (n : Int) := by have := HN.out; omega
    obtain ⟨ds, do', df, dw, dh⟩ := d
    dsimp only at HFI
    clear hf hk hkd hfd hbl g
    go_wp2_with fail
    refine HFI.out.mono ?_
    rintro r w8 ⟨rfl, hb8⟩
    have HB8 := Lib.hid (bthen HB7.out hb8)
    have HA8 := Lib.hid (balloc (Below.refl _ w8) (.cells #[.string ds, .int .i64 do', .bool df, .bool dw, .bool dh] 49))
    have HX8 := Lib.hid (heap_alloc_new w8 (.cells #[.string ds, .int .i64 do', .bool df, .bool dw, .bool dh] 49))
    have HB78 := Lib.hid (bthen hb8 HA8.out)
    clear hb8
    go_wp2_with fail
    refine (HRF.out _ HB78.out).mono ?_
    rintro r w9 ⟨rfl, hb9⟩
    have HB9 := Lib.hid (bthen HB8.out (bthen HA8.out hb9))
    have hx := (hb9.block _ (by simp)).trans HX8.out
    have q0 := Lib.cell_of_heap hx 0
    have q1 := Lib.cell_of_heap hx 1
    have q2 := Lib.cell_of_heap hx 2
    have q3 := Lib.cell_of_heap hx 3
    have q4 := Lib.cell_of_heap hx 4
    simp only [List.getElem?_toArray, List.getElem?_cons_zero, List.getElem?_cons_succ] at q0 q1 q2 q3 q4
    obtain ⟨g0, g1, g2, g3, g4⟩ := HGG.out _ (bthen HB78.out hb9)
    dsimp only at g0 g1 g2 g3 g4
    clear hx hb9
    go_wp2_with fail
    go_quiet (fail)
    have HBQ := Lib.hid (bthen HB9.out (drewN_below' w9 nq))
    go_wp2_with fail
    go_ret
    exact ⟨by simp, HBQ.out⟩
end Go.Proofs.Ytniolkjeblocaaa
