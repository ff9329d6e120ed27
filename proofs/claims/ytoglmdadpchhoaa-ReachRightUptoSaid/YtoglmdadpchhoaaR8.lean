/- Package reach: Roots, Drop. -/
import Derived.Test.YtoglmdadpchhoaaR7
import Derived.Test.YtoglmdadpchhoaaO3
namespace Go.Proofs.Ytoglmdadpchhoaa
open Go.RowKit Go.Shelf

def rootsF (l : List Fn) : List ByteArray := (l.filter fun f => f.b == 2 || f.s == mainN).map (·.s)
def rootsG (l : List Gl) : List ByteArray := (l.filter fun g => g.b == 2).map (·.s)
theorem rootsF_take {l : List Fn} {i : Nat} (hi : i < l.length) : rootsF (l.take (i + 1)) = rootsF (l.take i) ++ (if (l[i].b == 2 || l[i].s == mainN) = true then [l[i].s] else []) := by
  unfold rootsF
  rw [List.take_succ_eq_append_getElem hi, List.filter_append, List.map_append]
  congr 1
  cases h : (l[i].b == 2 || l[i].s == mainN) <;> simp only [List.filter, h] <;> rfl
theorem rootsG_take {l : List Gl} {i : Nat} (hi : i < l.length) : rootsG (l.take (i + 1)) = rootsG (l.take i) ++ (if (l[i].b == 2) = true then [l[i].s] else []) := by
  unfold rootsG
  rw [List.take_succ_eq_append_getElem hi, List.filter_append, List.map_append]
  congr 1
  cases h : (l[i].b == 2) <;> simp only [List.filter, h] <;> rfl
theorem rootsF_len (l : List Fn) : (rootsF l).length ≤ l.length := by
  unfold rootsF
  rw [List.length_map]
  exact List.length_filter_le _ _
theorem rootsG_len (l : List Gl) : (rootsG l).length ≤ l.length := by
  unfold rootsG
  rw [List.length_map]
  exact List.length_filter_le _ _
theorem roots_eq (m : Md) : rootsE m = rootsF m.f ++ rootsG m.g := rfl
theorem roots_len (m : Md) : (rootsE m).length ≤ m.f.length + m.g.length := by
  rw [roots_eq, List.length_append]
  have := rootsF_len m.f
  have := rootsG_len m.g
  omega
set_option maxRecDepth 100000 in
set_option maxHeartbeats 8000000 in
theorem roots_any (m : Md) (F G : Option Addr) (nf cf ng cg : Nat) (w : World) (hnf : m.f.length = nf) (hng : m.g.length = ng) (hn : nf + ng ≤ 1048576) (hS : MdAt w (.slice F nf cf) (.slice G ng cg) m) :
    Calls Try.prog 21 #[.agg #[.slice F nf cf, .slice G ng cg]] w (MadeN (rootsE m) w) := by
  have HS := Lib.hid hS.1
  have HSG := Lib.hid hS.2
  have HNF := Lib.hid (show m.f.length ≤ nf ∧ nf ≤ m.f.length by omega)
  have HNG := Lib.hid (show m.g.length ≤ ng ∧ ng ≤ m.g.length by omega)
  have HN9 := Lib.hid hn
  have n1 : (nf : Int) ≤ 1048576 := by omega
  have n2 : (ng : Int) ≤ 1048576 := by omega
  have hcb := heap_alloc_new w (.cells #[.slice F nf cf, .slice G ng cg] 25)
  have HB0 := Lib.hid (balloc (Below.refl _ w) (.cells #[.slice F nf cf, .slice G ng cg] 25))
  have HBS := Lib.hid (show (w.alloc (.cells #[.slice F nf cf, .slice G ng cg] 25)).heap.size = w.heap.size + 1 by simp)
  obtain ⟨W0, hW0⟩ : ∃ U, w.alloc (.cells #[.slice F nf cf, .slice G ng cg] 25) = U := ⟨_, rfl⟩
  rw [hW0] at hcb HB0 HBS
  have HCB := Lib.hid (show Whole W0 w.heap.size 25 #[.slice F nf cf, .slice G ng cg] from hcb)
  have c0 : W0.cell? ⟨w.heap.size, 0, none⟩ = some (.slice F nf cf) := HCB.out.cell 0
  clear hS hnf hng hn hcb
  go_enter Try.func21, Try.ntmps21
  go_wp2_with fail
  clear c0 hW0
  go_loopw [3, 11] (fun vv iv wr => ∃ i : Nat, i ≤ nf ∧ iv = .int .i64 i ∧ OwnsN wr W0.heap.size vv (rootsF (m.f.take i)) ∧ Below W0.heap.size W0 wr) (fun _ iv _ => nf - (intOf iv).toNat)
  case atStart => exact ⟨0, Nat.zero_le _, rfl, OwnsN.nil _ _, Below.refl _ _⟩
  case round =>
    obtain ⟨i, hi, rfl, ho, hb⟩ := hrel
    have HO := Lib.hid ho
    have HB := Lib.hid hb
    obtain ⟨A0, z0, hv0⟩ := ho.form
    obtain ⟨L, hL⟩ : ∃ L, rootsF (m.f.take i) = L := ⟨_, rfl⟩
    obtain ⟨nL, hnL⟩ : ∃ q, L.length = q := ⟨_, rfl⟩
    have HLQ := Lib.hid hnL
    have HLN := Lib.hid (show nL ≤ i by rw [← hnL, ← hL]; exact Nat.le_trans (rootsF_len _) (by rw [List.length_take]; omega))
    rw [hL] at HO hv0
    rw [hnL] at hv0
    subst hv0
    have HLE := Lib.hid hL
    clear ho hb hL hnL
    by_cases hlt : i < nf
    · have hm : i < m.f.length := by have := HNF.out; omega
      obtain ⟨b1, off, hA, hbl, e0⟩ := RowOf.at_ HS.out hm
      subst hA
      obtain ⟨c0, c1, c2, A3, z3, c3, -⟩ := FnAt.next _ _ _ _ _ hbl (bthen HB0.out HB.out) e0
      have HTK := Lib.hid (rootsF_take hm)
      rw [HLE.out] at HTK
      obtain ⟨⟨xs, xb, xp, xl⟩, hx⟩ : ∃ x, m.f[i] = x := ⟨_, rfl⟩
      rw [hx] at c0 c1 c2 c3 HTK
      dsimp only at c0 c1 c2 c3 HTK
      obtain ⟨xn, hxn⟩ : ∃ n, xl.length = n := ⟨_, rfl⟩
      rw [hxn] at c3
      have q0 : (0 : Int) ≤ (i : Int) := Int.natCast_nonneg _
      have q1 : (i : Int) < (nf : Int) := by omega
      have HLT := Lib.hid hlt
      have HO2 := Lib.hid (HO.out.call (balloc (Below.refl _ wr) (.cells #[.string xs, .int .i64 xb, .int .i64 xp, .slice A3 xn z3] 50)))
      have H16 := Lib.hid (show (nL + 1) * 16 ≤ 140737488355328 by have := HN9.out; have := HLN.out; omega)
      have HBW := Lib.hid (show W0.heap.size ≤ (wr.alloc (.cells #[.string xs, .int .i64 xb, .int .i64 xp, .slice A3 xn z3] 50)).heap.size by have := HB.out.size; simp; omega)
      have HBA := Lib.hid ((balloc (Below.refl _ wr) (.cells #[.string xs, .int .i64 xb, .int .i64 xp, .slice A3 xn z3] 50)).mono HB.out.size)
      clear e0 hbl hx hxn hm hlt
      by_cases hb2 : xb = 2
      · subst hb2
        have HTK2 := Lib.hid (show rootsF (m.f.take (i + 1)) = L ++ [xs] by rw [HTK.out]; rfl)
        go_wp2_with (at_builtin; go_loud (refine app_name rfl _ _ rfl _ (wr.alloc (.cells #[.string xs, .int .i64 2, .int .i64 xp, .slice A3 xn z3] 50)) xs rfl W0.heap.size A0 nL z0 L HLQ.out rfl (wr.heap.size + 1) (by simp) rfl HO2.out H16.out HBW.out ?_; intro A' z' w4 ho4 hb4))
        have HO4 := Lib.hid ho4
        have HB4 := Lib.hid (HB.out.trans (HBA.out.trans hb4))
        clear ho4 hb4
        go_wp2_with fail
        go_roundw
        case rel => exact ⟨i + 1, HLT.out, by go_num, by rw [HTK2.out]; exact HO4.out, HB4.out⟩
        case measure => have := HLT.out; simp [intOf]; omega
      · have t2 : (xb == 2) = false := by simpa using hb2
        rw [t2, Bool.false_or] at HTK
        clear hb2
        rcases Bool.eq_false_or_eq_true (xs == mainN) with hq | hq
        · have g1 : (xs.toList == [109, 97, 105, 110]) = true := by rw [← mainN_list, ← beq_toListBytes]; exact hq
          have HTK2 := Lib.hid (show rootsF (m.f.take (i + 1)) = L ++ [xs] by rw [HTK.out, hq]; rfl)
          clear hq
          go_wp2_with (at_builtin; go_loud (refine app_name rfl _ _ rfl _ (wr.alloc (.cells #[.string xs, .int .i64 xb, .int .i64 xp, .slice A3 xn z3] 50)) xs rfl W0.heap.size A0 nL z0 L HLQ.out rfl (wr.heap.size + 1) (by simp) rfl HO2.out H16.out HBW.out ?_; intro A' z' w4 ho4 hb4))
          have HO4 := Lib.hid ho4
          have HB4 := Lib.hid (HB.out.trans (HBA.out.trans hb4))
          clear ho4 hb4
          go_wp2_with fail
          go_roundw
          case rel => exact ⟨i + 1, HLT.out, by go_num, by rw [HTK2.out]; exact HO4.out, HB4.out⟩
          case measure => have := HLT.out; simp [intOf]; omega
        · have g1 : (xs.toList == [109, 97, 105, 110]) = false := by rw [← mainN_list, ← beq_toListBytes]; exact hq
          have HTK2 := Lib.hid (show rootsF (m.f.take (i + 1)) = L by rw [HTK.out, hq]; exact List.append_nil _)
          clear hq
          go_wp2_with fail
          go_roundw
          case rel => exact ⟨i + 1, HLT.out, by go_num, by rw [HTK2.out]; exact HO2.out, HB.out.trans HBA.out⟩
          case measure => have := HLT.out; simp [intOf]; omega
    · have hd : decide (i < nf) = false := by simp; omega
      have HF := Lib.hid (show OwnsN wr W0.heap.size (.slice A0 nL z0) (rootsF m.f) by
        have h := HO.out
        rw [← HLE.out, List.take_of_length_le (by have := HNF.out; omega)] at h
        exact h)
      have HRL := Lib.hid (show rootsF m.f = L by rw [← HLE.out, List.take_of_length_le (by have := HNF.out; omega)])
      have HB1 := Lib.hid HB.out
      have c1 : wr.cell? ⟨w.heap.size, 1, none⟩ = some (.slice G ng cg) := (cellNext HCB.out.lt HB.out 1).trans (HCB.out.cell 1)
      clear HO HB HLE HLQ HLN HRL hlt
      go_wp2_with fail
      clear c1
      go_loopw [3, 32] (fun vv iv wr => ∃ i : Nat, i ≤ ng ∧ iv = .int .i64 i ∧ OwnsN wr W0.heap.size vv (rootsF m.f ++ rootsG (m.g.take i)) ∧ Below W0.heap.size W0 wr) (fun _ iv _ => ng - (intOf iv).toNat)
      case atStart => exact ⟨0, Nat.zero_le _, rfl, by rw [show rootsG (m.g.take 0) = [] from rfl, List.append_nil]; exact HF.out, HB1.out⟩
      case round =>
        obtain ⟨i, hi, rfl, ho, hb⟩ := hrel
        clear HF HB1
        have HO := Lib.hid ho
        have HB := Lib.hid hb
        obtain ⟨A0, z0, hv0⟩ := ho.form
        obtain ⟨L, hL⟩ : ∃ L, rootsF m.f ++ rootsG (m.g.take i) = L := ⟨_, rfl⟩
        obtain ⟨nL, hnL⟩ : ∃ q, L.length = q := ⟨_, rfl⟩
        have HLQ := Lib.hid hnL
        have HLN := Lib.hid (show nL ≤ nf + i by
          rw [← hnL, ← hL, List.length_append]
          have h1 := rootsF_len m.f
          have h2 := rootsG_len (m.g.take i)
          rw [List.length_take] at h2
          have := HNF.out
          omega)
        rw [hL] at HO hv0
        rw [hnL] at hv0
        subst hv0
        have HLE := Lib.hid hL
        clear ho hb hL hnL
        by_cases hlt : i < ng
        · have hm : i < m.g.length := by have := HNG.out; omega
          obtain ⟨b1, off, hA, hbl, e0⟩ := RowOf.at_ HSG.out hm
          subst hA
          obtain ⟨c0, c1, c2, c3⟩ := GlAt.next _ _ _ _ _ hbl (bthen HB0.out HB.out) e0
          have HTK := Lib.hid (show rootsF m.f ++ rootsG (m.g.take (i + 1)) = L ++ (if (m.g[i].b == 2) = true then [m.g[i].s] else []) by rw [rootsG_take hm, ← List.append_assoc, HLE.out])
          obtain ⟨⟨xs, xb, xh, xi⟩, hx⟩ : ∃ x, m.g[i] = x := ⟨_, rfl⟩
          rw [hx] at c0 c1 c2 c3 HTK
          dsimp only at c0 c1 c2 c3 HTK
          have q0 : (0 : Int) ≤ (i : Int) := Int.natCast_nonneg _
          have q1 : (i : Int) < (ng : Int) := by omega
          have HLT := Lib.hid hlt
          have HO2 := Lib.hid (HO.out.call (balloc (Below.refl _ wr) (.cells #[.string xs, .int .i64 xb, .bool xh, .int .u64 xi] 54)))
          have H16 := Lib.hid (show (nL + 1) * 16 ≤ 140737488355328 by have := HN9.out; have := HLN.out; omega)
          have HBW := Lib.hid (show W0.heap.size ≤ (wr.alloc (.cells #[.string xs, .int .i64 xb, .bool xh, .int .u64 xi] 54)).heap.size by have := HB.out.size; simp; omega)
          have HBA := Lib.hid ((balloc (Below.refl _ wr) (.cells #[.string xs, .int .i64 xb, .bool xh, .int .u64 xi] 54)).mono HB.out.size)
          clear e0 hbl hx hm hlt
          by_cases hb2 : xb = 2
          · subst hb2
            have HTK2 := Lib.hid (show rootsF m.f ++ rootsG (m.g.take (i + 1)) = L ++ [xs] by rw [HTK.out]; rfl)
            go_wp2_with (at_builtin; go_loud (refine app_name rfl _ _ rfl _ (wr.alloc (.cells #[.string xs, .int .i64 2, .bool xh, .int .u64 xi] 54)) xs rfl W0.heap.size A0 nL z0 L HLQ.out rfl (wr.heap.size + 1) (by simp) rfl HO2.out H16.out HBW.out ?_; intro A' z' w4 ho4 hb4))
            have HO4 := Lib.hid ho4
            have HB4 := Lib.hid (HB.out.trans (HBA.out.trans hb4))
            clear ho4 hb4
            go_wp2_with fail
            go_roundw
            case rel => exact ⟨i + 1, HLT.out, by go_num, by rw [HTK2.out]; exact HO4.out, HB4.out⟩
            case measure => have := HLT.out; simp [intOf]; omega
          · have t2 : (xb == 2) = false := by simpa using hb2
            have HTK2 := Lib.hid (show rootsF m.f ++ rootsG (m.g.take (i + 1)) = L by rw [HTK.out, t2]; exact List.append_nil _)
            clear hb2
            go_wp2_with fail
            go_roundw
            case rel => exact ⟨i + 1, HLT.out, by go_num, by rw [HTK2.out]; exact HO2.out, HB.out.trans HBA.out⟩
            case measure => have := HLT.out; simp [intOf]; omega
        · have hd : decide ((i : Int) < (ng : Int)) = false := by simp; omega
          have HF := Lib.hid (show rootsE m = L ∧ L.length = nL by
            refine ⟨?_, HLQ.out⟩
            rw [roots_eq, ← HLE.out, List.take_of_length_le (by have := HNG.out; omega)])
          go_wp2_with fail
          go_ret
          rw [HF.out.1]
          refine ⟨A0, z0, by rw [HF.out.2]; rfl, HB0.out.trans (HB.out.mono (by have := HBS.out; omega)), ?_⟩
          rw [HF.out.2]
          exact HO.out.thin (by have := HBS.out; omega)
set_option maxRecDepth 100000 in
set_option maxHeartbeats 2000000 in
theorem dropFn_any (T : List ByteArray) (x : Fn) (cs : List Value) (bx b n : Nat) (U : World) (h : FnC U cs x) (hx : x.s.size < 9223372036854775808) (hc : U.cell? ⟨bx, 0, none⟩ = some (.map (some b))) (hS : SetAt U b n T) :
    Calls Try.prog 41 #[.agg cs.toArray, .pointer (some ⟨bx, 0, none⟩)] U fun e w' => e = .returned (.bool (!decide (x.s ∈ T))) ∧ Below U.heap.size U w' := by
  obtain ⟨A1, c1, rfl, -⟩ := h
  obtain ⟨xs, xb, xp, xl⟩ := x
  dsimp only at *
  obtain ⟨xn, hxn⟩ : ∃ q, xl.length = q := ⟨_, rfl⟩
  rw [hxn]
  clear hxn
  have hbx := World.block_lt_of_cell? U _ hc
  have hba := balloc (Below.refl _ U) (.cells #[.string xs, .int .i64 xb, .int .i64 xp, .slice A1 xn c1] 50)
  have HL := Lib.hid (lack_any T xs b n (U.alloc (.cells #[.string xs, .int .i64 xb, .int .i64 xp, .slice A1 xn c1] 50)) hx (hS.same (hba.block b hS.lt)))
  have hc2 := (cellNext hbx hba 0).trans hc
  have HBA := Lib.hid hba
  clear hS hx hbx hba
  go_enter Try.func41, Try.ntmps41
  go_wp2_with fail
  refine HL.out.mono ?_
  rintro r w1 ⟨rfl, hb1⟩
  have HB1 := Lib.hid hb1
  clear hb1
  go_wp2_with fail
  go_ret
  exact ⟨rfl, bthen HBA.out HB1.out⟩
set_option maxRecDepth 100000 in
set_option maxHeartbeats 2000000 in
theorem dropGl_any (T : List ByteArray) (x : Gl) (cs : List Value) (bx b n : Nat) (U : World) (h : GlC U cs x) (hx : x.s.size < 9223372036854775808) (hc : U.cell? ⟨bx, 0, none⟩ = some (.map (some b))) (hS : SetAt U b n T) :
    Calls Try.prog 44 #[.agg cs.toArray, .pointer (some ⟨bx, 0, none⟩)] U fun e w' => e = .returned (.bool (!decide (x.s ∈ T))) ∧ Below U.heap.size U w' := by
  obtain rfl : cs = [.string x.s, .int .i64 x.b, .bool x.h, .int .u64 x.i] := h
  obtain ⟨xs, xb, xh, xi⟩ := x
  dsimp only at *
  have hbx := World.block_lt_of_cell? U _ hc
  have hba := balloc (Below.refl _ U) (.cells #[.string xs, .int .i64 xb, .bool xh, .int .u64 xi] 54)
  have HL := Lib.hid (lack_any T xs b n (U.alloc (.cells #[.string xs, .int .i64 xb, .bool xh, .int .u64 xi] 54)) hx (hS.same (hba.block b hS.lt)))
  have hc2 := (cellNext hbx hba 0).trans hc
  have HBA := Lib.hid hba
  clear hS hx hbx hba
  go_enter Try.func44, Try.ntmps44
  go_wp2_with fail
  refine HL.out.mono ?_
  rintro r w1 ⟨rfl, hb1⟩
  have HB1 := Lib.hid hb1
  clear hb1
  go_wp2_with fail
  go_ret
  exact ⟨rfl, bthen HBA.out HB1.out⟩
end Go.Proofs.Ytoglmdadpchhoaa
