/- Package own: each of a row becomes another, in new memory, with whatever function. -/
import Derived.Test.YtoglmdadpchhoaaO0
namespace Go.Proofs.Ytoglmdadpchhoaa
open Go.RowKit

theorem size_In : (Try.prog.info? 62).map (·.size) = some 6 := by kernel_rfl
set_option maxRecDepth 100000 in
set_option maxHeartbeats 4000000 in
theorem eachIn_any (φ : In → In) (g : FuncId) (bd caps : Array Value) (l : List In) (A : Option Addr) (n c : Nat) (w : World) (hn : l.length = n) (h9 : n * 72 ≤ 140737488355328) (hS : Insts w (.slice A n c) l)
    (hcf : ∀ args U, (callFunc g args).run Try.prog U = .ok (.enter g args) U)
    (hC : ∀ x ∈ l, ∀ (cs : List Value) (U : World), Below w.heap.size w U → InC U cs x → Calls Try.prog g (bd ++ #[.agg cs.toArray] ++ caps) U (Made InC (φ x) U)) :
    Calls Try.prog 107 #[.slice A n c, .func (.func g) bd caps] w (MadeRow 6 62 InC (l.map φ) w) := by
  have HC := Lib.hid (cloneIns_any hS (by omega))
  have HN := Lib.hid (show l.length ≤ n ∧ n ≤ l.length by omega)
  have HNQ := Lib.hid hn
  have HCF := Lib.hid hcf
  have HCC := Lib.hid hC
  have n1 : (n : Int) ≤ 9223372036854775807 := by omega
  clear hS hn hcf hC h9
  go_enter Try.func107, Try.ntmps107
  go_wp2_with fail
  refine HC.out.mono ?_
  rintro r w1 ⟨v1, ys, rfl, ho, -, hb1, hsrc⟩
  rw [HNQ.out] at ho
  rcases ho.2 with ⟨rfl, hn0⟩ | ⟨gg, cap, cur, rfl, hge, hh, -⟩
  · have HL0 := Lib.hid (show l = [] from List.length_eq_zero_iff.1 (by have := HN.out; omega))
    have HB1 := Lib.hid hb1
    subst hn0
    clear ho hb1 hsrc HC HCC HCF
    go_wp2_with fail
    go_loopw [10] (fun iv wr => iv = .int .i64 0 ∧ w1 = wr) (fun _ _ => 0)
    case atStart => exact ⟨rfl, rfl⟩
    case round =>
      obtain ⟨rfl, rfl⟩ := hrel
      go_wp2_with fail
      go_ret
      refine ⟨none, 0, by rw [HL0.out]; rfl, HB1.out, by rw [HL0.out]; exact OwnAt.nil _ _ _ HB1.out.size⟩
  · obtain ⟨s, hsz⟩ : ∃ s, w1.heap.size = s := ⟨_, rfl⟩
    have HIN := Lib.hid (show EachIn 6 62 InC InC w l (l.map φ) gg s n cap 0 w1 from ⟨ys, ho, fun j _ h => absurd h (by omega), fun j hj _ => by
      obtain ⟨b, off, cp, -, -, hp, hc⟩ := hsrc (by omega)
      exact in_src hp hc j hj, hb1, by omega, by rw [← hsz]; exact (Array.getElem?_eq_some_iff.1 hh).1⟩)
    clear ho hb1 hsrc HC hge hh hsz
    go_wp2_with fail
    go_loopw [10] (fun iv wr => ∃ i : Nat, i ≤ n ∧ iv = .int .i64 i ∧ EachIn 6 62 InC InC w l (l.map φ) gg s n cap i wr) (fun iv _ => n - (intOf iv).toNat)
    case atStart => exact ⟨0, Nat.zero_le _, rfl, HIN.out⟩
    case round =>
      obtain ⟨i, hi, rfl, hin⟩ := hrel
      have HI := Lib.hid hin
      clear hin HIN
      by_cases hlt : i < n
      · have hm : i < l.length := by have := HN.out; omega
        obtain ⟨cs, hcl, hv, hat⟩ := each_get HI.out HNQ.out hm
        have HCL := Lib.hid (show cs.length ≤ 6 ∧ 6 ≤ cs.length by omega)
        have HRG := Lib.hid (hat wr (Below.refl _ _)).1
        have HAT := Lib.hid hat
        have HCI := Lib.hid (HCC.out l[i] (List.getElem_mem hm) cs wr HI.out.choose_spec.2.2.2.1 hv)
        have HST := Lib.hid (fun (u : World) (hb : Below wr.heap.size wr u) (ds : List Value) (hd : InC u ds (φ l[i])) (hv : ∀ U, SameIn wr.heap.size u.heap.size u U → InC U ds (φ l[i])) => each_step (cs := ds) HI.out HNQ.out (by rw [List.length_map]; exact HNQ.out) (by rw [List.length_map]; exact hm) hb hd.len.1 (fun U hU => by rw [List.getElem_map]; exact hv U hU))
        have hk0 : (0 : Int) ≤ (i : Int) := Int.natCast_nonneg _
        have hk1 : (i : Int) < (n : Int) := by omega
        have HLT := Lib.hid hlt
        have HSZ := Lib.hid (show (Try.prog.info? 62).map (·.size) = some cs.length by rw [hcl]; exact size_In)
        obtain ⟨y, hy⟩ : ∃ y, φ l[i] = y := ⟨_, rfl⟩
        rw [hy] at HCI HST
        clear hcl hv hat hm hlt hy
        go_wp2_with (refine wpList_load_mid rfl 62 _ rfl gg (i * 6) rfl cs _ HRG.out Try.underlying62 rfl HSZ.out ?_)
        rw [HCF.out]
        refine Calls.mono HCI.out ?_
        rintro r u ⟨ds, rfl, hb, hd⟩
        have hdu := hd u (SameIn.refl _ _ _)
        have HDL := Lib.hid hdu.len
        have HTH := Lib.hid (show u.there gg (i * 6) ds.toArray.size by rw [List.size_toArray, HDL.out.1]; exact (HAT.out u hb).2)
        have HNX := Lib.hid (HST.out u hb ds hdu hd)
        have HDZ := Lib.hid (show (Try.prog.info? 62).map (·.size) = some ds.toArray.size by rw [List.size_toArray, HDL.out.1]; exact size_In)
        clear hb hd hdu
        go_wp2_with (refine wpList_store_mid rfl 62 _ _ rfl gg (i * 6) ds.toArray rfl rfl HTH.out HDZ.out HDL.out.2 ?_)
        go_roundw
        case rel => exact ⟨i + 1, HLT.out, by go_num, HNX.out⟩
        case measure => have := HLT.out; simp [intOf]; omega
      · have hd : decide ((i : Int) < (n : Int)) = false := by simp; omega
        have HF := Lib.hid (each_done HI.out (by omega) (by rw [List.length_map]; exact HNQ.out))
        have HB := Lib.hid HI.out.choose_spec.2.2.2.1
        have HML := Lib.hid (show (l.map φ).length = n by rw [List.length_map]; exact HNQ.out)
        go_wp2_with fail
        go_ret
        refine ⟨some ⟨gg, 0, none⟩, cap, by rw [HML.out]; rfl, HB.out, ?_⟩
        rw [HML.out]
        exact HF.out
theorem size_Bk : (Try.prog.info? 67).map (·.size) = some 8 := by kernel_rfl
set_option maxRecDepth 100000 in
set_option maxHeartbeats 4000000 in
theorem eachBk_any (φ : Bk → Bk) (g : FuncId) (bd caps : Array Value) (l : List Bk) (A : Option Addr) (n c : Nat) (w : World) (hn : l.length = n) (h9 : n * 112 ≤ 140737488355328) (hS : Blocks w (.slice A n c) l)
    (hcf : ∀ args U, (callFunc g args).run Try.prog U = .ok (.enter g args) U)
    (hC : ∀ x ∈ l, ∀ (cs : List Value) (U : World), Below w.heap.size w U → BkC U cs x → Calls Try.prog g (bd ++ #[.agg cs.toArray] ++ caps) U (Made BkC (φ x) U)) :
    Calls Try.prog 93 #[.slice A n c, .func (.func g) bd caps] w (MadeRow 8 67 BkC (l.map φ) w) := by
  have HC := Lib.hid (cloneBks_any hS (by omega))
  have HN := Lib.hid (show l.length ≤ n ∧ n ≤ l.length by omega)
  have HNQ := Lib.hid hn
  have HCF := Lib.hid hcf
  have HCC := Lib.hid hC
  have n1 : (n : Int) ≤ 9223372036854775807 := by omega
  clear hS hn hcf hC h9
  go_enter Try.func93, Try.ntmps93
  go_wp2_with fail
  refine HC.out.mono ?_
  rintro r w1 ⟨v1, ys, rfl, ho, -, hb1, hsrc⟩
  rw [HNQ.out] at ho
  rcases ho.2 with ⟨rfl, hn0⟩ | ⟨gg, cap, cur, rfl, hge, hh, -⟩
  · have HL0 := Lib.hid (show l = [] from List.length_eq_zero_iff.1 (by have := HN.out; omega))
    have HB1 := Lib.hid hb1
    subst hn0
    clear ho hb1 hsrc HC HCC HCF
    go_wp2_with fail
    go_loopw [10] (fun iv wr => iv = .int .i64 0 ∧ w1 = wr) (fun _ _ => 0)
    case atStart => exact ⟨rfl, rfl⟩
    case round =>
      obtain ⟨rfl, rfl⟩ := hrel
      go_wp2_with fail
      go_ret
      refine ⟨none, 0, by rw [HL0.out]; rfl, HB1.out, by rw [HL0.out]; exact OwnAt.nil _ _ _ HB1.out.size⟩
  · obtain ⟨s, hsz⟩ : ∃ s, w1.heap.size = s := ⟨_, rfl⟩
    have HIN := Lib.hid (show EachIn 8 67 BkC BkC w l (l.map φ) gg s n cap 0 w1 from ⟨ys, ho, fun j _ h => absurd h (by omega), fun j hj _ => by
      obtain ⟨b, off, cp, -, -, hp, hc⟩ := hsrc (by omega)
      exact bk_src hp hc j hj, hb1, by omega, by rw [← hsz]; exact (Array.getElem?_eq_some_iff.1 hh).1⟩)
    clear ho hb1 hsrc HC hge hh hsz
    go_wp2_with fail
    go_loopw [10] (fun iv wr => ∃ i : Nat, i ≤ n ∧ iv = .int .i64 i ∧ EachIn 8 67 BkC BkC w l (l.map φ) gg s n cap i wr) (fun iv _ => n - (intOf iv).toNat)
    case atStart => exact ⟨0, Nat.zero_le _, rfl, HIN.out⟩
    case round =>
      obtain ⟨i, hi, rfl, hin⟩ := hrel
      have HI := Lib.hid hin
      clear hin HIN
      by_cases hlt : i < n
      · have hm : i < l.length := by have := HN.out; omega
        obtain ⟨cs, hcl, hv, hat⟩ := each_get HI.out HNQ.out hm
        have HCL := Lib.hid (show cs.length ≤ 8 ∧ 8 ≤ cs.length by omega)
        have HRG := Lib.hid (hat wr (Below.refl _ _)).1
        have HAT := Lib.hid hat
        have HCI := Lib.hid (HCC.out l[i] (List.getElem_mem hm) cs wr HI.out.choose_spec.2.2.2.1 hv)
        have HST := Lib.hid (fun (u : World) (hb : Below wr.heap.size wr u) (ds : List Value) (hd : BkC u ds (φ l[i])) (hv : ∀ U, SameIn wr.heap.size u.heap.size u U → BkC U ds (φ l[i])) => each_step (cs := ds) HI.out HNQ.out (by rw [List.length_map]; exact HNQ.out) (by rw [List.length_map]; exact hm) hb hd.len.1 (fun U hU => by rw [List.getElem_map]; exact hv U hU))
        have hk0 : (0 : Int) ≤ (i : Int) := Int.natCast_nonneg _
        have hk1 : (i : Int) < (n : Int) := by omega
        have HLT := Lib.hid hlt
        have HSZ := Lib.hid (show (Try.prog.info? 67).map (·.size) = some cs.length by rw [hcl]; exact size_Bk)
        obtain ⟨y, hy⟩ : ∃ y, φ l[i] = y := ⟨_, rfl⟩
        rw [hy] at HCI HST
        clear hcl hv hat hm hlt hy
        go_wp2_with (refine wpList_load_mid rfl 67 _ rfl gg (i * 8) rfl cs _ HRG.out Try.underlying67 rfl HSZ.out ?_)
        rw [HCF.out]
        refine Calls.mono HCI.out ?_
        rintro r u ⟨ds, rfl, hb, hd⟩
        have hdu := hd u (SameIn.refl _ _ _)
        have HDL := Lib.hid hdu.len
        have HTH := Lib.hid (show u.there gg (i * 8) ds.toArray.size by rw [List.size_toArray, HDL.out.1]; exact (HAT.out u hb).2)
        have HNX := Lib.hid (HST.out u hb ds hdu hd)
        have HDZ := Lib.hid (show (Try.prog.info? 67).map (·.size) = some ds.toArray.size by rw [List.size_toArray, HDL.out.1]; exact size_Bk)
        clear hb hd hdu
        go_wp2_with (refine wpList_store_mid rfl 67 _ _ rfl gg (i * 8) ds.toArray rfl rfl HTH.out HDZ.out HDL.out.2 ?_)
        go_roundw
        case rel => exact ⟨i + 1, HLT.out, by go_num, HNX.out⟩
        case measure => have := HLT.out; simp [intOf]; omega
      · have hd : decide ((i : Int) < (n : Int)) = false := by simp; omega
        have HF := Lib.hid (each_done HI.out (by omega) (by rw [List.length_map]; exact HNQ.out))
        have HB := Lib.hid HI.out.choose_spec.2.2.2.1
        have HML := Lib.hid (show (l.map φ).length = n by rw [List.length_map]; exact HNQ.out)
        go_wp2_with fail
        go_ret
        refine ⟨some ⟨gg, 0, none⟩, cap, by rw [HML.out]; rfl, HB.out, ?_⟩
        rw [HML.out]
        exact HF.out
theorem size_Fn : (Try.prog.info? 50).map (·.size) = some 4 := by kernel_rfl
set_option maxRecDepth 100000 in
set_option maxHeartbeats 4000000 in
theorem eachFn_any (φ : Fn → Fn) (g : FuncId) (bd caps : Array Value) (l : List Fn) (A : Option Addr) (n c : Nat) (w : World) (hn : l.length = n) (h9 : n * 56 ≤ 140737488355328) (hS : Funcs w (.slice A n c) l)
    (hcf : ∀ args U, (callFunc g args).run Try.prog U = .ok (.enter g args) U)
    (hC : ∀ x ∈ l, ∀ (cs : List Value) (U : World), Below w.heap.size w U → FnC U cs x → Calls Try.prog g (bd ++ #[.agg cs.toArray] ++ caps) U (Made FnC (φ x) U)) :
    Calls Try.prog 73 #[.slice A n c, .func (.func g) bd caps] w (MadeRow 4 50 FnC (l.map φ) w) := by
  have HC := Lib.hid (cloneFns_any hS (by omega))
  have HN := Lib.hid (show l.length ≤ n ∧ n ≤ l.length by omega)
  have HNQ := Lib.hid hn
  have HCF := Lib.hid hcf
  have HCC := Lib.hid hC
  have n1 : (n : Int) ≤ 9223372036854775807 := by omega
  clear hS hn hcf hC h9
  go_enter Try.func73, Try.ntmps73
  go_wp2_with fail
  refine HC.out.mono ?_
  rintro r w1 ⟨v1, ys, rfl, ho, -, hb1, hsrc⟩
  rw [HNQ.out] at ho
  rcases ho.2 with ⟨rfl, hn0⟩ | ⟨gg, cap, cur, rfl, hge, hh, -⟩
  · have HL0 := Lib.hid (show l = [] from List.length_eq_zero_iff.1 (by have := HN.out; omega))
    have HB1 := Lib.hid hb1
    subst hn0
    clear ho hb1 hsrc HC HCC HCF
    go_wp2_with fail
    go_loopw [10] (fun iv wr => iv = .int .i64 0 ∧ w1 = wr) (fun _ _ => 0)
    case atStart => exact ⟨rfl, rfl⟩
    case round =>
      obtain ⟨rfl, rfl⟩ := hrel
      go_wp2_with fail
      go_ret
      refine ⟨none, 0, by rw [HL0.out]; rfl, HB1.out, by rw [HL0.out]; exact OwnAt.nil _ _ _ HB1.out.size⟩
  · obtain ⟨s, hsz⟩ : ∃ s, w1.heap.size = s := ⟨_, rfl⟩
    have HIN := Lib.hid (show EachIn 4 50 FnC FnC w l (l.map φ) gg s n cap 0 w1 from ⟨ys, ho, fun j _ h => absurd h (by omega), fun j hj _ => by
      obtain ⟨b, off, cp, -, -, hp, hc⟩ := hsrc (by omega)
      exact fn_src hp hc j hj, hb1, by omega, by rw [← hsz]; exact (Array.getElem?_eq_some_iff.1 hh).1⟩)
    clear ho hb1 hsrc HC hge hh hsz
    go_wp2_with fail
    go_loopw [10] (fun iv wr => ∃ i : Nat, i ≤ n ∧ iv = .int .i64 i ∧ EachIn 4 50 FnC FnC w l (l.map φ) gg s n cap i wr) (fun iv _ => n - (intOf iv).toNat)
    case atStart => exact ⟨0, Nat.zero_le _, rfl, HIN.out⟩
    case round =>
      obtain ⟨i, hi, rfl, hin⟩ := hrel
      have HI := Lib.hid hin
      clear hin HIN
      by_cases hlt : i < n
      · have hm : i < l.length := by have := HN.out; omega
        obtain ⟨cs, hcl, hv, hat⟩ := each_get HI.out HNQ.out hm
        have HCL := Lib.hid (show cs.length ≤ 4 ∧ 4 ≤ cs.length by omega)
        have HRG := Lib.hid (hat wr (Below.refl _ _)).1
        have HAT := Lib.hid hat
        have HCI := Lib.hid (HCC.out l[i] (List.getElem_mem hm) cs wr HI.out.choose_spec.2.2.2.1 hv)
        have HST := Lib.hid (fun (u : World) (hb : Below wr.heap.size wr u) (ds : List Value) (hd : FnC u ds (φ l[i])) (hv : ∀ U, SameIn wr.heap.size u.heap.size u U → FnC U ds (φ l[i])) => each_step (cs := ds) HI.out HNQ.out (by rw [List.length_map]; exact HNQ.out) (by rw [List.length_map]; exact hm) hb hd.len.1 (fun U hU => by rw [List.getElem_map]; exact hv U hU))
        have hk0 : (0 : Int) ≤ (i : Int) := Int.natCast_nonneg _
        have hk1 : (i : Int) < (n : Int) := by omega
        have HLT := Lib.hid hlt
        have HSZ := Lib.hid (show (Try.prog.info? 50).map (·.size) = some cs.length by rw [hcl]; exact size_Fn)
        obtain ⟨y, hy⟩ : ∃ y, φ l[i] = y := ⟨_, rfl⟩
        rw [hy] at HCI HST
        clear hcl hv hat hm hlt hy
        go_wp2_with (refine wpList_load_mid rfl 50 _ rfl gg (i * 4) rfl cs _ HRG.out Try.underlying50 rfl HSZ.out ?_)
        rw [HCF.out]
        refine Calls.mono HCI.out ?_
        rintro r u ⟨ds, rfl, hb, hd⟩
        have hdu := hd u (SameIn.refl _ _ _)
        have HDL := Lib.hid hdu.len
        have HTH := Lib.hid (show u.there gg (i * 4) ds.toArray.size by rw [List.size_toArray, HDL.out.1]; exact (HAT.out u hb).2)
        have HNX := Lib.hid (HST.out u hb ds hdu hd)
        have HDZ := Lib.hid (show (Try.prog.info? 50).map (·.size) = some ds.toArray.size by rw [List.size_toArray, HDL.out.1]; exact size_Fn)
        clear hb hd hdu
        go_wp2_with (refine wpList_store_mid rfl 50 _ _ rfl gg (i * 4) ds.toArray rfl rfl HTH.out HDZ.out HDL.out.2 ?_)
        go_roundw
        case rel => exact ⟨i + 1, HLT.out, by go_num, HNX.out⟩
        case measure => have := HLT.out; simp [intOf]; omega
      · have hd : decide ((i : Int) < (n : Int)) = false := by simp; omega
        have HF := Lib.hid (each_done HI.out (by omega) (by rw [List.length_map]; exact HNQ.out))
        have HB := Lib.hid HI.out.choose_spec.2.2.2.1
        have HML := Lib.hid (show (l.map φ).length = n by rw [List.length_map]; exact HNQ.out)
        go_wp2_with fail
        go_ret
        refine ⟨some ⟨gg, 0, none⟩, cap, by rw [HML.out]; rfl, HB.out, ?_⟩
        rw [HML.out]
        exact HF.out
end Go.Proofs.Ytoglmdadpchhoaa
