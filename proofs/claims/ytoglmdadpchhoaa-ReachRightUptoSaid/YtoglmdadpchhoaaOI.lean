/- Package slices: IndexFunc and DeleteFunc of names, functions, globals, with whatever predicate. -/
import Derived.Test.YtoglmdadpchhoaaO4
namespace Go.Proofs.Ytoglmdadpchhoaa
open Go.RowKit

theorem size_Fn : (Try.prog.info? 50).map (·.size) = some 4 := by kernel_rfl
theorem size_Gl : (Try.prog.info? 54).map (·.size) = some 4 := by kernel_rfl
theorem del_cap {α : Type} {sz : Nat} {T : TypeId} {V : World → List Value → α → Prop} {base hi : Nat} {p : α → Bool} {l : List α} {g n cap j : Nat} {w W : World} (h : DelIn sz T V base hi p l g n cap j w W) : n ≤ cap := by
  obtain ⟨ys, s, o1, -⟩ := h
  rcases o1.2 with ⟨e, _⟩ | ⟨g', cap', cur, e, -, -, h, -⟩
  · cases e
  · have e2 := (Value.slice.inj e).2.2
    omega
theorem del_there {α : Type} {sz : Nat} {T : TypeId} {V : World → List Value → α → Prop} {base hi : Nat} {p : α → Bool} {l : List α} {g n cap j k : Nat} {w W : World} (h : DelIn sz T V base hi p l g n cap j w W) (_hn : l.length = n) (_hk : (keptE p l j).length = k) (_hkj : k < j) {m : Nat} (hm : k * sz + m ≤ n * sz) : W.there g (k * sz) m := by
  obtain ⟨ys, s, o1, -⟩ := h
  have hys : ys.length = n * sz := o1.1
  intro q hq
  refine ⟨?_, o1.frozenAt _⟩
  rw [o1.cellAt _ (by omega), List.getElem?_eq_getElem (by omega)]
  rfl

set_option maxRecDepth 100000 in
set_option maxHeartbeats 4000000 in
theorem indexSt_any (p : ByteArray → Bool) (g : FuncId) (bd caps : Array Value) (l : List ByteArray) (base hi : Nat) (A : Option Addr) (n c : Nat) (w : World) (hn : l.length = n) (h9 : n ≤ 9223372036854775807) (hS : OwnAt 1 9 StC base hi l (.slice A n c) w)
    (hcf : ∀ args U, (callFunc g args).run Try.prog U = .ok (.enter g args) U)
    (hC : ∀ x ∈ l, ∀ (cs : List Value) (U : World), StC U cs x → Out base hi w U → Calls Try.prog g (bd ++ #[.string x] ++ caps) U fun e w' => e = .returned (.bool (p x)) ∧ Below U.heap.size U w') :
    Calls Try.prog 81 #[.slice A n c, .func (.func g) bd caps] w fun e w' => e = .returned (.int .i64 (idxP p l)) ∧ Below w.heap.size w w' := by
  have HN := Lib.hid (show l.length ≤ n ∧ n ≤ l.length by omega)
  have HS := Lib.hid hS
  have HC := Lib.hid hC
  have HCF := Lib.hid hcf
  have HBS := Lib.hid (show base ≤ w.heap.size by have := hS.size; omega)
  have n1 : (n : Int) ≤ 9223372036854775807 := by omega
  obtain ⟨V, hV⟩ : ∃ V, idxP p l = V := ⟨_, rfl⟩
  have HE := Lib.hid hV
  rw [hV]
  clear hS hC hcf hn h9 hV
  go_enter Try.func81, Try.ntmps81
  go_wp2_with fail
  go_loopw [8] (fun iv wr => ∃ i : Nat, i ≤ n ∧ iv = .int .i64 i ∧ (l.take i).any p = false ∧ Below w.heap.size w wr) (fun iv _ => n - (intOf iv).toNat)
  case atStart => exact ⟨0, Nat.zero_le _, rfl, rfl, Below.refl _ _⟩
  case round =>
    obtain ⟨i, hi', rfl, hs, hb⟩ := hrel
    have HT := Lib.hid hs
    have HB := Lib.hid hb
    clear hs
    by_cases hlt : i < n
    · have hm : i < l.length := by have := HN.out; omega
      have hown := HS.out.call hb
      obtain ⟨gg, rfl⟩ : ∃ gg, A = some ⟨gg, 0, none⟩ := by
        obtain ⟨ys, s, h1, -⟩ := hown
        rcases h1.2 with ⟨e, e2⟩ | ⟨g', cap', cur, e, -⟩
        · omega
        · exact ⟨g', (Value.slice.inj e).1⟩
      obtain ⟨cs, hcl, hv, HRG⟩ := own_get hown hm
      have HY := Lib.hid (show p l[i] = true → V = (i : Int) from fun h => by rw [← HE.out]; exact idxP_at hm HT.out h)
      have HNX := Lib.hid (show p l[i] = false → (l.take (i + 1)).any p = false from fun h => by
        rw [List.take_succ_eq_append_getElem hm, List.any_append, HT.out]
        simp [h])
      have HCI := HC.out l[i] (List.getElem_mem hm) cs wr hv (Out.of_below hb HBS.out)
      obtain ⟨Q, hQ⟩ : ∃ Q, p l[i] = Q := ⟨_, rfl⟩
      rw [hQ] at HY HNX HCI
      obtain ⟨x, hx⟩ : ∃ x, l[i] = x := ⟨_, rfl⟩
      rw [hx] at hv
      try rw [hx] at HCI
      clear hx hQ
      obtain rfl : cs = [.string x] := hv
      have e0 : wr.cell? ⟨gg, i, none⟩ = some (.string x) := by have h := HRG 0 _ rfl; simpa using h
      have HCJ := Lib.hid HCI
      have hk0 : (0 : Int) ≤ (i : Int) := Int.natCast_nonneg _
      have hk1 : (i : Int) < (n : Int) := by omega
      have HLT := Lib.hid hlt
      clear hm hlt hb HCI HRG hown hcl
      go_wp2_with fail
      rw [HCF.out]
      refine Calls.mono HCJ.out ?_
      rintro r w2 ⟨rfl, hb2⟩
      have HB2 := Lib.hid (bthen HB.out hb2)
      clear hb2
      cases Q with
      | true =>
        have HV := Lib.hid (HY.out rfl)
        go_wp2_with fail
        go_ret
        exact ⟨by rw [HV.out]; rfl, HB2.out⟩
      | false =>
        have HV := Lib.hid (HNX.out rfl)
        go_wp2_with fail
        go_roundw
        case rel => exact ⟨i + 1, HLT.out, by go_num, HV.out, HB2.out⟩
        case measure => have := HLT.out; simp [intOf]; omega
    · have hd : decide ((i : Int) < (n : Int)) = false := by simp; omega
      have HV := Lib.hid (show V = -1 by
        have h := HT.out
        rw [List.take_of_length_le (by have := HN.out; omega)] at h
        rw [← HE.out, idxP_no h])
      go_wp2_with fail
      go_ret
      exact ⟨by rw [HV.out]; rfl, HB.out⟩
set_option maxRecDepth 100000 in
set_option maxHeartbeats 4000000 in
theorem indexFn_any (p : Fn → Bool) (g : FuncId) (bd caps : Array Value) (l : List Fn) (base hi : Nat) (A : Option Addr) (n c : Nat) (w : World) (hn : l.length = n) (h9 : n ≤ 9223372036854775807) (hS : OwnAt 4 50 FnC base hi l (.slice A n c) w)
    (hcf : ∀ args U, (callFunc g args).run Try.prog U = .ok (.enter g args) U)
    (hC : ∀ x ∈ l, ∀ (cs : List Value) (U : World), FnC U cs x → Out base hi w U → Calls Try.prog g (bd ++ #[.agg cs.toArray] ++ caps) U fun e w' => e = .returned (.bool (p x)) ∧ Below U.heap.size U w') :
    Calls Try.prog 76 #[.slice A n c, .func (.func g) bd caps] w fun e w' => e = .returned (.int .i64 (idxP p l)) ∧ Below w.heap.size w w' := by
  have HN := Lib.hid (show l.length ≤ n ∧ n ≤ l.length by omega)
  have HS := Lib.hid hS
  have HC := Lib.hid hC
  have HCF := Lib.hid hcf
  have HBS := Lib.hid (show base ≤ w.heap.size by have := hS.size; omega)
  have n1 : (n : Int) ≤ 9223372036854775807 := by omega
  obtain ⟨V, hV⟩ : ∃ V, idxP p l = V := ⟨_, rfl⟩
  have HE := Lib.hid hV
  rw [hV]
  clear hS hC hcf hn h9 hV
  go_enter Try.func76, Try.ntmps76
  go_wp2_with fail
  go_loopw [8] (fun iv wr => ∃ i : Nat, i ≤ n ∧ iv = .int .i64 i ∧ (l.take i).any p = false ∧ Below w.heap.size w wr) (fun iv _ => n - (intOf iv).toNat)
  case atStart => exact ⟨0, Nat.zero_le _, rfl, rfl, Below.refl _ _⟩
  case round =>
    obtain ⟨i, hi', rfl, hs, hb⟩ := hrel
    have HT := Lib.hid hs
    have HB := Lib.hid hb
    clear hs
    by_cases hlt : i < n
    · have hm : i < l.length := by have := HN.out; omega
      have hown := HS.out.call hb
      obtain ⟨gg, rfl⟩ : ∃ gg, A = some ⟨gg, 0, none⟩ := by
        obtain ⟨ys, s, h1, -⟩ := hown
        rcases h1.2 with ⟨e, e2⟩ | ⟨g', cap', cur, e, -⟩
        · omega
        · exact ⟨g', (Value.slice.inj e).1⟩
      obtain ⟨cs, hcl, hv, HRG⟩ := own_get hown hm
      have HY := Lib.hid (show p l[i] = true → V = (i : Int) from fun h => by rw [← HE.out]; exact idxP_at hm HT.out h)
      have HNX := Lib.hid (show p l[i] = false → (l.take (i + 1)).any p = false from fun h => by
        rw [List.take_succ_eq_append_getElem hm, List.any_append, HT.out]
        simp [h])
      have HCI := HC.out l[i] (List.getElem_mem hm) cs wr hv (Out.of_below hb HBS.out)
      obtain ⟨Q, hQ⟩ : ∃ Q, p l[i] = Q := ⟨_, rfl⟩
      rw [hQ] at HY HNX HCI
      obtain ⟨x, hx⟩ : ∃ x, l[i] = x := ⟨_, rfl⟩
      rw [hx] at hv
      try rw [hx] at HCI
      clear hx hQ
      obtain ⟨A1, c1, rfl, hbl⟩ := hv
      obtain ⟨xs, xb, xp, xl⟩ := x
      dsimp only at *
      obtain ⟨xn, hxn⟩ : ∃ n, xl.length = n := ⟨_, rfl⟩
      rw [hxn] at HCI HRG
      try rw [hxn] at HKE
      have e0 : wr.cell? ⟨gg, i * 4, none⟩ = some (.string xs) := HRG 0 _ rfl
      have e1 : wr.cell? ⟨gg, i * 4 + 1, none⟩ = some (.int .i64 xb) := HRG 1 _ rfl
      have e2 : wr.cell? ⟨gg, i * 4 + 2, none⟩ = some (.int .i64 xp) := HRG 2 _ rfl
      have e3 : wr.cell? ⟨gg, i * 4 + 3, none⟩ = some (.slice A1 xn c1) := HRG 3 _ rfl
      have HCJ := Lib.hid HCI
      have hk0 : (0 : Int) ≤ (i : Int) := Int.natCast_nonneg _
      have hk1 : (i : Int) < (n : Int) := by omega
      have HLT := Lib.hid hlt
      clear hm hlt hb HCI HRG hown hcl hbl hxn
      go_wp2_with fail
      rw [HCF.out]
      refine Calls.mono HCJ.out ?_
      rintro r w2 ⟨rfl, hb2⟩
      have HB2 := Lib.hid (bthen HB.out hb2)
      clear hb2
      cases Q with
      | true =>
        have HV := Lib.hid (HY.out rfl)
        go_wp2_with fail
        go_ret
        exact ⟨by rw [HV.out]; rfl, HB2.out⟩
      | false =>
        have HV := Lib.hid (HNX.out rfl)
        go_wp2_with fail
        go_roundw
        case rel => exact ⟨i + 1, HLT.out, by go_num, HV.out, HB2.out⟩
        case measure => have := HLT.out; simp [intOf]; omega
    · have hd : decide ((i : Int) < (n : Int)) = false := by simp; omega
      have HV := Lib.hid (show V = -1 by
        have h := HT.out
        rw [List.take_of_length_le (by have := HN.out; omega)] at h
        rw [← HE.out, idxP_no h])
      go_wp2_with fail
      go_ret
      exact ⟨by rw [HV.out]; rfl, HB.out⟩
set_option maxRecDepth 100000 in
set_option maxHeartbeats 4000000 in
theorem indexGl_any (p : Gl → Bool) (g : FuncId) (bd caps : Array Value) (l : List Gl) (base hi : Nat) (A : Option Addr) (n c : Nat) (w : World) (hn : l.length = n) (h9 : n ≤ 9223372036854775807) (hS : OwnAt 4 54 GlC base hi l (.slice A n c) w)
    (hcf : ∀ args U, (callFunc g args).run Try.prog U = .ok (.enter g args) U)
    (hC : ∀ x ∈ l, ∀ (cs : List Value) (U : World), GlC U cs x → Out base hi w U → Calls Try.prog g (bd ++ #[.agg cs.toArray] ++ caps) U fun e w' => e = .returned (.bool (p x)) ∧ Below U.heap.size U w') :
    Calls Try.prog 77 #[.slice A n c, .func (.func g) bd caps] w fun e w' => e = .returned (.int .i64 (idxP p l)) ∧ Below w.heap.size w w' := by
  have HN := Lib.hid (show l.length ≤ n ∧ n ≤ l.length by omega)
  have HS := Lib.hid hS
  have HC := Lib.hid hC
  have HCF := Lib.hid hcf
  have HBS := Lib.hid (show base ≤ w.heap.size by have := hS.size; omega)
  have n1 : (n : Int) ≤ 9223372036854775807 := by omega
  obtain ⟨V, hV⟩ : ∃ V, idxP p l = V := ⟨_, rfl⟩
  have HE := Lib.hid hV
  rw [hV]
  clear hS hC hcf hn h9 hV
  go_enter Try.func77, Try.ntmps77
  go_wp2_with fail
  go_loopw [8] (fun iv wr => ∃ i : Nat, i ≤ n ∧ iv = .int .i64 i ∧ (l.take i).any p = false ∧ Below w.heap.size w wr) (fun iv _ => n - (intOf iv).toNat)
  case atStart => exact ⟨0, Nat.zero_le _, rfl, rfl, Below.refl _ _⟩
  case round =>
    obtain ⟨i, hi', rfl, hs, hb⟩ := hrel
    have HT := Lib.hid hs
    have HB := Lib.hid hb
    clear hs
    by_cases hlt : i < n
    · have hm : i < l.length := by have := HN.out; omega
      have hown := HS.out.call hb
      obtain ⟨gg, rfl⟩ : ∃ gg, A = some ⟨gg, 0, none⟩ := by
        obtain ⟨ys, s, h1, -⟩ := hown
        rcases h1.2 with ⟨e, e2⟩ | ⟨g', cap', cur, e, -⟩
        · omega
        · exact ⟨g', (Value.slice.inj e).1⟩
      obtain ⟨cs, hcl, hv, HRG⟩ := own_get hown hm
      have HY := Lib.hid (show p l[i] = true → V = (i : Int) from fun h => by rw [← HE.out]; exact idxP_at hm HT.out h)
      have HNX := Lib.hid (show p l[i] = false → (l.take (i + 1)).any p = false from fun h => by
        rw [List.take_succ_eq_append_getElem hm, List.any_append, HT.out]
        simp [h])
      have HCI := HC.out l[i] (List.getElem_mem hm) cs wr hv (Out.of_below hb HBS.out)
      obtain ⟨Q, hQ⟩ : ∃ Q, p l[i] = Q := ⟨_, rfl⟩
      rw [hQ] at HY HNX HCI
      obtain ⟨x, hx⟩ : ∃ x, l[i] = x := ⟨_, rfl⟩
      rw [hx] at hv
      try rw [hx] at HCI
      clear hx hQ
      obtain rfl : cs = [.string x.s, .int .i64 x.b, .bool x.h, .int .u64 x.i] := hv
      obtain ⟨xs, xb, xh, xi⟩ := x
      dsimp only at *
      have e0 : wr.cell? ⟨gg, i * 4, none⟩ = some (.string xs) := HRG 0 _ rfl
      have e1 : wr.cell? ⟨gg, i * 4 + 1, none⟩ = some (.int .i64 xb) := HRG 1 _ rfl
      have e2 : wr.cell? ⟨gg, i * 4 + 2, none⟩ = some (.bool xh) := HRG 2 _ rfl
      have e3 : wr.cell? ⟨gg, i * 4 + 3, none⟩ = some (.int .u64 xi) := HRG 3 _ rfl
      have HCJ := Lib.hid HCI
      have hk0 : (0 : Int) ≤ (i : Int) := Int.natCast_nonneg _
      have hk1 : (i : Int) < (n : Int) := by omega
      have HLT := Lib.hid hlt
      clear hm hlt hb HCI HRG hown hcl
      go_wp2_with fail
      rw [HCF.out]
      refine Calls.mono HCJ.out ?_
      rintro r w2 ⟨rfl, hb2⟩
      have HB2 := Lib.hid (bthen HB.out hb2)
      clear hb2
      cases Q with
      | true =>
        have HV := Lib.hid (HY.out rfl)
        go_wp2_with fail
        go_ret
        exact ⟨by rw [HV.out]; rfl, HB2.out⟩
      | false =>
        have HV := Lib.hid (HNX.out rfl)
        go_wp2_with fail
        go_roundw
        case rel => exact ⟨i + 1, HLT.out, by go_num, HV.out, HB2.out⟩
        case measure => have := HLT.out; simp [intOf]; omega
    · have hd : decide ((i : Int) < (n : Int)) = false := by simp; omega
      have HV := Lib.hid (show V = -1 by
        have h := HT.out
        rw [List.take_of_length_le (by have := HN.out; omega)] at h
        rw [← HE.out, idxP_no h])
      go_wp2_with fail
      go_ret
      exact ⟨by rw [HV.out]; rfl, HB.out⟩
end Go.Proofs.Ytoglmdadpchhoaa
