/- Package bit: rows laid by a writer: of numbers, instructions, blocks, functions, globals. -/
import Derived.Test.YtjldddpchiaalaaU2
import Derived.Test.YtjldddpchiaalaaHU10
namespace Go.Proofs.Ytjldddpchiaalaa
open Go.RowKit
namespace Q

theorem Lies.then_ {B b : Nat} {w W W' : World} {l l' : List UInt8} (h : Lies B b w l W) (k : Lies B b W l' W') : Lies B b w l' W' := ⟨k.f, h.k.trans k.k, k.s⟩
theorem Lies.start {B b : Nat} {w W : World} {l : List UInt8} (h : Lies B b w l W) : Lies B b W l W := ⟨h.f, Keep.refl _ _ _, h.s⟩
set_option maxRecDepth 100000 in
set_option maxHeartbeats 4000000 in
theorem layInts_any (p : Int → List UInt8) (g : FuncId) (bd caps : Array Value) (w0 : World) (B b : Nat) (l : List UInt8) (xs : List Int) (A : Option Addr) (n c : Nat) (W : World) (hB : w0.heap.size = B) (h : Lies B b W l W) (hw : Below B w0 W) (hn : xs.length = n) (h9 : n ≤ 1000) (hS : Ints w0 (.slice A n c) xs)
    (M : Nat) (hM : M ≤ 99000000) (hl : l.length + (rowL p xs).length ≤ M) (hcf : ∀ args U, (callFunc g args).run Try.prog U = .ok (.enter g args) U)
    (hC : ∀ x ∈ xs, ∀ l' U, Lies B b W l' U → l'.length + (p x).length ≤ M → Calls Try.prog g (bd ++ #[.int .i64 x] ++ caps) U fun e w' => e = .returned (.tuple #[]) ∧ Lies B b U (l' ++ p x) w') :
    Calls Try.prog 84 #[.pointer (some ⟨b, 0, none⟩), .slice A n c, .func (.func g) bd caps] W fun e w' => e = .returned (.tuple #[]) ∧ Lies B b W (l ++ rowL p xs) w' := by
  have HN := Lib.hid (show xs.length ≤ n ∧ n ≤ xs.length by omega)
  have HS := Lib.hid hS
  have HC := Lib.hid hC
  have HCF := Lib.hid hcf
  have n1 : (n : Int) ≤ 1000 := by omega
  have wn : IntKind.u64.wrap (n : Int) = (n : Int) := IntWalk.u64_in _ (by omega)
  have HW := Lib.hid (show ∀ U, Below B W U → Below w0.heap.size w0 U from fun U hU => by rw [hB]; exact hw.trans hU)
  have HL := Lib.hid (show l.length + (numL n).length + (xs.flatMap p).length ≤ M by
    unfold rowL at hl
    rw [List.length_append, hn] at hl
    omega)
  have HR := Lib.hid (show l ++ rowL p xs = l ++ numL n ++ (xs.take n).flatMap p by
    rw [List.take_of_length_le (by omega)]
    unfold rowL
    rw [hn, List.append_assoc])
  have hc : Calls Try.prog 23 #[.pointer (some ⟨b, 0, none⟩), .slice (some ⟨W.heap.size, 0, none⟩) 1 1] (W.alloc (.cells #[.int .u64 n] 35)) fun e w' => e = .returned (.tuple #[]) ∧ Lies B b W (l ++ numL n) w' := by
    have h := nums_put B b l [n] W W h (by simp) (fun v hv => by rw [List.mem_singleton] at hv; omega) (by omega)
    rw [show numsQ [n] = numL n by simp [numsQ]] at h
    exact h
  have HNUM := Lib.hid hc
  rw [HR.out]
  clear hS hC hcf hn h9 hw hl h hc hB HR hM
  go_enter Try.func84, Try.ntmps84
  go_wp2_with fail
  refine HNUM.out.mono ?_
  rintro e wa ⟨rfl, ha⟩
  have HA := Lib.hid ha
  clear ha
  go_wp2_with fail
  go_loopw [16] (fun iv wr => ∃ i : Nat, i ≤ n ∧ iv = .int .i64 i ∧ Lies B b W (l ++ numL n ++ (xs.take i).flatMap p) wr) (fun iv _ => n - (intOf iv).toNat)
  case atStart => exact ⟨0, Nat.zero_le _, rfl, by simpa using HA.out⟩
  case round =>
    obtain ⟨i, hi, rfl, hLi⟩ := hrel
    have HLI := Lib.hid hLi
    clear hLi
    by_cases hlt : i < n
    · have hm : i < xs.length := by have := HN.out; omega
      have hbw := HW.out wr HLI.out.k.below
      obtain ⟨b1, off, hA, e0⟩ := (HS.out.next hbw).at_ hm
      subst hA
      have HT := Lib.hid (show (xs.take (i + 1)).flatMap p = (xs.take i).flatMap p ++ p xs[i] by
        rw [List.take_succ_eq_append_getElem hm, List.flatMap_append]
        simp)
      have HCI := Lib.hid (HC.out xs[i] (List.getElem_mem hm) _ wr (HLI.out) (by
        have h1 := HL.out
        have h2 : ((xs.take (i + 1)).flatMap p).length ≤ (xs.flatMap p).length := by
          have e : xs.flatMap p = (xs.take (i + 1)).flatMap p ++ (xs.drop (i + 1)).flatMap p := by rw [← List.flatMap_append, List.take_append_drop]
          rw [e, List.length_append]; omega
        rw [HT.out, List.length_append] at h2
        rw [List.length_append, List.length_append]
        omega))
      rw [List.append_assoc, ← HT.out] at HCI
      obtain ⟨x, hx⟩ : ∃ x, xs[i] = x := ⟨_, rfl⟩
      rw [hx] at e0 HCI
      have hk0 : (0 : Int) ≤ (i : Int) := Int.natCast_nonneg _
      have hk1 : (i : Int) < (n : Int) := by omega
      have HLT := Lib.hid hlt
      have HBW := Lib.hid hbw
      clear hx hm hlt hbw HT
      go_wp2_with fail
      rw [HCF.out]
      refine Calls.mono HCI.out ?_
      rintro r w2 ⟨rfl, h2⟩
      have H2 := Lib.hid (show Lies B b W (l ++ numL n ++ (xs.take (i + 1)).flatMap p) w2 from HLI.out.then_ h2)
      clear h2
      go_wp2_with fail
      go_roundw
      case rel => exact ⟨i + 1, HLT.out, by go_num, H2.out⟩
      case measure => have := HLT.out; simp [intOf]; omega
    · have hd : decide ((i : Int) < (n : Int)) = false := by simp; omega
      have HF := Lib.hid (show Lies B b W (l ++ numL n ++ (xs.take n).flatMap p) wr by
        have h := HLI.out
        have h2 := HN.out
        rw [List.take_of_length_le (by omega)] at h ⊢
        exact h)
      go_wp2_with fail
      go_end0
      exact ⟨rfl, HF.out⟩
set_option maxRecDepth 100000 in
set_option maxHeartbeats 4000000 in
theorem layIns_any (p : In → List UInt8) (g : FuncId) (bd caps : Array Value) (w0 : World) (B b : Nat) (l : List UInt8) (xs : List In) (A : Option Addr) (n c : Nat) (W : World) (hB : w0.heap.size = B) (h : Lies B b W l W) (hw : Below B w0 W) (hn : xs.length = n) (h9 : n ≤ 1000) (hS : Insts w0 (.slice A n c) xs)
    (M : Nat) (hM : M ≤ 99000000) (hl : l.length + (rowL p xs).length ≤ M) (hcf : ∀ args U, (callFunc g args).run Try.prog U = .ok (.enter g args) U)
    (hC : ∀ x ∈ xs, ∀ (A0 : Option Addr) (c0 : Nat), Ints w0 (.slice A0 x.l.length c0) x.l → ∀ l' U, Lies B b W l' U → l'.length + (p x).length ≤ M → Calls Try.prog g (bd ++ #[.agg #[.int .i64 x.o, .int .i64 x.a, .int .i64 x.b, .int .u64 x.k, .string x.s, .slice A0 x.l.length c0]] ++ caps) U fun e w' => e = .returned (.tuple #[]) ∧ Lies B b U (l' ++ p x) w') :
    Calls Try.prog 54 #[.pointer (some ⟨b, 0, none⟩), .slice A n c, .func (.func g) bd caps] W fun e w' => e = .returned (.tuple #[]) ∧ Lies B b W (l ++ rowL p xs) w' := by
  have HN := Lib.hid (show xs.length ≤ n ∧ n ≤ xs.length by omega)
  have HS := Lib.hid hS
  have HC := Lib.hid hC
  have HCF := Lib.hid hcf
  have n1 : (n : Int) ≤ 1000 := by omega
  have wn : IntKind.u64.wrap (n : Int) = (n : Int) := IntWalk.u64_in _ (by omega)
  have HW := Lib.hid (show ∀ U, Below B W U → Below w0.heap.size w0 U from fun U hU => by rw [hB]; exact hw.trans hU)
  have HL := Lib.hid (show l.length + (numL n).length + (xs.flatMap p).length ≤ M by
    unfold rowL at hl
    rw [List.length_append, hn] at hl
    omega)
  have HR := Lib.hid (show l ++ rowL p xs = l ++ numL n ++ (xs.take n).flatMap p by
    rw [List.take_of_length_le (by omega)]
    unfold rowL
    rw [hn, List.append_assoc])
  have hc : Calls Try.prog 23 #[.pointer (some ⟨b, 0, none⟩), .slice (some ⟨W.heap.size, 0, none⟩) 1 1] (W.alloc (.cells #[.int .u64 n] 35)) fun e w' => e = .returned (.tuple #[]) ∧ Lies B b W (l ++ numL n) w' := by
    have h := nums_put B b l [n] W W h (by simp) (fun v hv => by rw [List.mem_singleton] at hv; omega) (by omega)
    rw [show numsQ [n] = numL n by simp [numsQ]] at h
    exact h
  have HNUM := Lib.hid hc
  rw [HR.out]
  clear hS hC hcf hn h9 hw hl h hc hB HR hM
  go_enter Try.func54, Try.ntmps54
  go_wp2_with fail
  refine HNUM.out.mono ?_
  rintro e wa ⟨rfl, ha⟩
  have HA := Lib.hid ha
  clear ha
  go_wp2_with fail
  go_loopw [16] (fun iv wr => ∃ i : Nat, i ≤ n ∧ iv = .int .i64 i ∧ Lies B b W (l ++ numL n ++ (xs.take i).flatMap p) wr) (fun iv _ => n - (intOf iv).toNat)
  case atStart => exact ⟨0, Nat.zero_le _, rfl, by simpa using HA.out⟩
  case round =>
    obtain ⟨i, hi, rfl, hLi⟩ := hrel
    have HLI := Lib.hid hLi
    clear hLi
    by_cases hlt : i < n
    · have hm : i < xs.length := by have := HN.out; omega
      have hbw := HW.out wr HLI.out.k.below
      obtain ⟨b1, off, hA, hbl, e0⟩ := RowOf.at_ HS.out hm
      obtain ⟨f0, f1, f2, f3, f4, A0, c0, f5, k0⟩ := e0
      have g0 := (cellNext hbl hbw _).trans f0
      have g1 := (cellNext hbl hbw _).trans f1
      have g2 := (cellNext hbl hbw _).trans f2
      have g3 := (cellNext hbl hbw _).trans f3
      have g4 := (cellNext hbl hbw _).trans f4
      have g5 := (cellNext hbl hbw _).trans f5
      clear f0 f1 f2 f3 f4 f5
      subst hA
      have HT := Lib.hid (show (xs.take (i + 1)).flatMap p = (xs.take i).flatMap p ++ p xs[i] by
        rw [List.take_succ_eq_append_getElem hm, List.flatMap_append]
        simp)
      obtain ⟨ob, hob⟩ : ∃ o, Obj.cells #[.int .i64 xs[i].o, .int .i64 xs[i].a, .int .i64 xs[i].b, .int .u64 xs[i].k, .string xs[i].s, .slice A0 xs[i].l.length c0] 76 (0, 0) = o := ⟨_, rfl⟩
      have HCI := Lib.hid (HC.out xs[i] (List.getElem_mem hm) A0 c0 k0 _ (wr.alloc ob) (HLI.out.alloc ob) (by
        have h1 := HL.out
        have h2 : ((xs.take (i + 1)).flatMap p).length ≤ (xs.flatMap p).length := by
          have e : xs.flatMap p = (xs.take (i + 1)).flatMap p ++ (xs.drop (i + 1)).flatMap p := by rw [← List.flatMap_append, List.take_append_drop]
          rw [e, List.length_append]; omega
        rw [HT.out, List.length_append] at h2
        rw [List.length_append, List.length_append]
        omega))
      rw [List.append_assoc, ← HT.out] at HCI
      obtain ⟨⟨yo, ya, yb, yk, ys, yl⟩, hx⟩ : ∃ x, xs[i] = x := ⟨_, rfl⟩
      rw [hx] at g0 g1 g2 g3 g4 g5 HCI hob
      dsimp only at g0 g1 g2 g3 g4 g5 HCI hob
      have hk0 : (0 : Int) ≤ (i : Int) := Int.natCast_nonneg _
      have hk1 : (i : Int) < (n : Int) := by omega
      have HLT := Lib.hid hlt
      have HBW := Lib.hid hbw
      subst hob
      clear hx hm hlt hbl k0 hbw HT
      go_wp2_with fail
      rw [HCF.out]
      refine Calls.mono HCI.out ?_
      rintro r w2 ⟨rfl, h2⟩
      have H2 := Lib.hid (show Lies B b W (l ++ numL n ++ (xs.take (i + 1)).flatMap p) w2 from (HLI.out.alloc _).then_ h2)
      clear h2
      go_wp2_with fail
      go_roundw
      case rel => exact ⟨i + 1, HLT.out, by go_num, H2.out⟩
      case measure => have := HLT.out; simp [intOf]; omega
    · have hd : decide ((i : Int) < (n : Int)) = false := by simp; omega
      have HF := Lib.hid (show Lies B b W (l ++ numL n ++ (xs.take n).flatMap p) wr by
        have h := HLI.out
        have h2 := HN.out
        rw [List.take_of_length_le (by omega)] at h ⊢
        exact h)
      go_wp2_with fail
      go_end0
      exact ⟨rfl, HF.out⟩
set_option maxRecDepth 100000 in
set_option maxHeartbeats 4000000 in
theorem layBks_any (p : Bk → List UInt8) (g : FuncId) (bd caps : Array Value) (w0 : World) (B b : Nat) (l : List UInt8) (xs : List Bk) (A : Option Addr) (n c : Nat) (W : World) (hB : w0.heap.size = B) (h : Lies B b W l W) (hw : Below B w0 W) (hn : xs.length = n) (h9 : n ≤ 1000) (hS : Blocks w0 (.slice A n c) xs)
    (M : Nat) (hM : M ≤ 99000000) (hl : l.length + (rowL p xs).length ≤ M) (hcf : ∀ args U, (callFunc g args).run Try.prog U = .ok (.enter g args) U)
    (hC : ∀ x ∈ xs, ∀ (A0 A1 A2 : Option Addr) (c0 c1 c2 : Nat), Insts w0 (.slice A0 x.i.length c0) x.i → Ints w0 (.slice A1 x.e.l.length c1) x.e.l → Ints w0 (.slice A2 x.e.m.length c2) x.e.m → ∀ l' U, Lies B b W l' U → l'.length + (p x).length ≤ M → Calls Try.prog g (bd ++ #[.agg #[.int .i64 x.p, .slice A0 x.i.length c0, .int .i64 x.e.k, .int .i64 x.e.a, .int .i64 x.e.t, .slice A1 x.e.l.length c1, .int .i64 x.e.e, .slice A2 x.e.m.length c2]] ++ caps) U fun e w' => e = .returned (.tuple #[]) ∧ Lies B b U (l' ++ p x) w') :
    Calls Try.prog 52 #[.pointer (some ⟨b, 0, none⟩), .slice A n c, .func (.func g) bd caps] W fun e w' => e = .returned (.tuple #[]) ∧ Lies B b W (l ++ rowL p xs) w' := by
  have HN := Lib.hid (show xs.length ≤ n ∧ n ≤ xs.length by omega)
  have HS := Lib.hid hS
  have HC := Lib.hid hC
  have HCF := Lib.hid hcf
  have n1 : (n : Int) ≤ 1000 := by omega
  have wn : IntKind.u64.wrap (n : Int) = (n : Int) := IntWalk.u64_in _ (by omega)
  have HW := Lib.hid (show ∀ U, Below B W U → Below w0.heap.size w0 U from fun U hU => by rw [hB]; exact hw.trans hU)
  have HL := Lib.hid (show l.length + (numL n).length + (xs.flatMap p).length ≤ M by
    unfold rowL at hl
    rw [List.length_append, hn] at hl
    omega)
  have HR := Lib.hid (show l ++ rowL p xs = l ++ numL n ++ (xs.take n).flatMap p by
    rw [List.take_of_length_le (by omega)]
    unfold rowL
    rw [hn, List.append_assoc])
  have hc : Calls Try.prog 23 #[.pointer (some ⟨b, 0, none⟩), .slice (some ⟨W.heap.size, 0, none⟩) 1 1] (W.alloc (.cells #[.int .u64 n] 35)) fun e w' => e = .returned (.tuple #[]) ∧ Lies B b W (l ++ numL n) w' := by
    have h := nums_put B b l [n] W W h (by simp) (fun v hv => by rw [List.mem_singleton] at hv; omega) (by omega)
    rw [show numsQ [n] = numL n by simp [numsQ]] at h
    exact h
  have HNUM := Lib.hid hc
  rw [HR.out]
  clear hS hC hcf hn h9 hw hl h hc hB HR hM
  go_enter Try.func52, Try.ntmps52
  go_wp2_with fail
  refine HNUM.out.mono ?_
  rintro e wa ⟨rfl, ha⟩
  have HA := Lib.hid ha
  clear ha
  go_wp2_with fail
  go_loopw [16] (fun iv wr => ∃ i : Nat, i ≤ n ∧ iv = .int .i64 i ∧ Lies B b W (l ++ numL n ++ (xs.take i).flatMap p) wr) (fun iv _ => n - (intOf iv).toNat)
  case atStart => exact ⟨0, Nat.zero_le _, rfl, by simpa using HA.out⟩
  case round =>
    obtain ⟨i, hi, rfl, hLi⟩ := hrel
    have HLI := Lib.hid hLi
    clear hLi
    by_cases hlt : i < n
    · have hm : i < xs.length := by have := HN.out; omega
      have hbw := HW.out wr HLI.out.k.below
      obtain ⟨b1, off, hA, hbl, e0⟩ := RowOf.at_ HS.out hm
      obtain ⟨f0, ⟨A0, c0, f1, k0⟩, f2, f3, f4, ⟨A1, c1, f5, k1⟩, f6, A2, c2, f7, k2⟩ := e0
      have g0 := (cellNext hbl hbw _).trans f0
      have g1 := (cellNext hbl hbw _).trans f1
      have g2 := (cellNext hbl hbw _).trans f2
      have g3 := (cellNext hbl hbw _).trans f3
      have g4 := (cellNext hbl hbw _).trans f4
      have g5 := (cellNext hbl hbw _).trans f5
      have g6 := (cellNext hbl hbw _).trans f6
      have g7 := (cellNext hbl hbw _).trans f7
      clear f0 f1 f2 f3 f4 f5 f6 f7
      subst hA
      have HT := Lib.hid (show (xs.take (i + 1)).flatMap p = (xs.take i).flatMap p ++ p xs[i] by
        rw [List.take_succ_eq_append_getElem hm, List.flatMap_append]
        simp)
      obtain ⟨ob, hob⟩ : ∃ o, Obj.cells #[.int .i64 xs[i].p, .slice A0 xs[i].i.length c0, .int .i64 xs[i].e.k, .int .i64 xs[i].e.a, .int .i64 xs[i].e.t, .slice A1 xs[i].e.l.length c1, .int .i64 xs[i].e.e, .slice A2 xs[i].e.m.length c2] 74 (0, 0) = o := ⟨_, rfl⟩
      have HCI := Lib.hid (HC.out xs[i] (List.getElem_mem hm) A0 A1 A2 c0 c1 c2 k0 k1 k2 _ (wr.alloc ob) (HLI.out.alloc ob) (by
        have h1 := HL.out
        have h2 : ((xs.take (i + 1)).flatMap p).length ≤ (xs.flatMap p).length := by
          have e : xs.flatMap p = (xs.take (i + 1)).flatMap p ++ (xs.drop (i + 1)).flatMap p := by rw [← List.flatMap_append, List.take_append_drop]
          rw [e, List.length_append]; omega
        rw [HT.out, List.length_append] at h2
        rw [List.length_append, List.length_append]
        omega))
      rw [List.append_assoc, ← HT.out] at HCI
      obtain ⟨⟨yp, yi, ⟨yk, ya, yt, yl, ye, ym⟩⟩, hx⟩ : ∃ x, xs[i] = x := ⟨_, rfl⟩
      rw [hx] at g0 g1 g2 g3 g4 g5 g6 g7 HCI hob
      dsimp only at g0 g1 g2 g3 g4 g5 g6 g7 HCI hob
      have hk0 : (0 : Int) ≤ (i : Int) := Int.natCast_nonneg _
      have hk1 : (i : Int) < (n : Int) := by omega
      have HLT := Lib.hid hlt
      have HBW := Lib.hid hbw
      subst hob
      clear hx hm hlt hbl k0 k1 k2 hbw HT
      go_wp2_with fail
      rw [HCF.out]
      refine Calls.mono HCI.out ?_
      rintro r w2 ⟨rfl, h2⟩
      have H2 := Lib.hid (show Lies B b W (l ++ numL n ++ (xs.take (i + 1)).flatMap p) w2 from (HLI.out.alloc _).then_ h2)
      clear h2
      go_wp2_with fail
      go_roundw
      case rel => exact ⟨i + 1, HLT.out, by go_num, H2.out⟩
      case measure => have := HLT.out; simp [intOf]; omega
    · have hd : decide ((i : Int) < (n : Int)) = false := by simp; omega
      have HF := Lib.hid (show Lies B b W (l ++ numL n ++ (xs.take n).flatMap p) wr by
        have h := HLI.out
        have h2 := HN.out
        rw [List.take_of_length_le (by omega)] at h ⊢
        exact h)
      go_wp2_with fail
      go_end0
      exact ⟨rfl, HF.out⟩
set_option maxRecDepth 100000 in
set_option maxHeartbeats 4000000 in
theorem layFns_any (p : Fn → List UInt8) (g : FuncId) (bd caps : Array Value) (w0 : World) (B b : Nat) (l : List UInt8) (xs : List Fn) (A : Option Addr) (n c : Nat) (W : World) (hB : w0.heap.size = B) (h : Lies B b W l W) (hw : Below B w0 W) (hn : xs.length = n) (h9 : n ≤ 1000) (hS : Funcs w0 (.slice A n c) xs)
    (M : Nat) (hM : M ≤ 99000000) (hl : l.length + (rowL p xs).length ≤ M) (hcf : ∀ args U, (callFunc g args).run Try.prog U = .ok (.enter g args) U)
    (hC : ∀ x ∈ xs, ∀ (A0 : Option Addr) (c0 : Nat), Blocks w0 (.slice A0 x.l.length c0) x.l → ∀ l' U, Lies B b W l' U → l'.length + (p x).length ≤ M → Calls Try.prog g (bd ++ #[.agg #[.string x.s, .int .i64 x.b, .int .i64 x.p, .slice A0 x.l.length c0]] ++ caps) U fun e w' => e = .returned (.tuple #[]) ∧ Lies B b U (l' ++ p x) w') :
    Calls Try.prog 33 #[.pointer (some ⟨b, 0, none⟩), .slice A n c, .func (.func g) bd caps] W fun e w' => e = .returned (.tuple #[]) ∧ Lies B b W (l ++ rowL p xs) w' := by
  have HN := Lib.hid (show xs.length ≤ n ∧ n ≤ xs.length by omega)
  have HS := Lib.hid hS
  have HC := Lib.hid hC
  have HCF := Lib.hid hcf
  have n1 : (n : Int) ≤ 1000 := by omega
  have wn : IntKind.u64.wrap (n : Int) = (n : Int) := IntWalk.u64_in _ (by omega)
  have HW := Lib.hid (show ∀ U, Below B W U → Below w0.heap.size w0 U from fun U hU => by rw [hB]; exact hw.trans hU)
  have HL := Lib.hid (show l.length + (numL n).length + (xs.flatMap p).length ≤ M by
    unfold rowL at hl
    rw [List.length_append, hn] at hl
    omega)
  have HR := Lib.hid (show l ++ rowL p xs = l ++ numL n ++ (xs.take n).flatMap p by
    rw [List.take_of_length_le (by omega)]
    unfold rowL
    rw [hn, List.append_assoc])
  have hc : Calls Try.prog 23 #[.pointer (some ⟨b, 0, none⟩), .slice (some ⟨W.heap.size, 0, none⟩) 1 1] (W.alloc (.cells #[.int .u64 n] 35)) fun e w' => e = .returned (.tuple #[]) ∧ Lies B b W (l ++ numL n) w' := by
    have h := nums_put B b l [n] W W h (by simp) (fun v hv => by rw [List.mem_singleton] at hv; omega) (by omega)
    rw [show numsQ [n] = numL n by simp [numsQ]] at h
    exact h
  have HNUM := Lib.hid hc
  rw [HR.out]
  clear hS hC hcf hn h9 hw hl h hc hB HR hM
  go_enter Try.func33, Try.ntmps33
  go_wp2_with fail
  refine HNUM.out.mono ?_
  rintro e wa ⟨rfl, ha⟩
  have HA := Lib.hid ha
  clear ha
  go_wp2_with fail
  go_loopw [16] (fun iv wr => ∃ i : Nat, i ≤ n ∧ iv = .int .i64 i ∧ Lies B b W (l ++ numL n ++ (xs.take i).flatMap p) wr) (fun iv _ => n - (intOf iv).toNat)
  case atStart => exact ⟨0, Nat.zero_le _, rfl, by simpa using HA.out⟩
  case round =>
    obtain ⟨i, hi, rfl, hLi⟩ := hrel
    have HLI := Lib.hid hLi
    clear hLi
    by_cases hlt : i < n
    · have hm : i < xs.length := by have := HN.out; omega
      have hbw := HW.out wr HLI.out.k.below
      obtain ⟨b1, off, hA, hbl, e0⟩ := RowOf.at_ HS.out hm
      obtain ⟨f0, f1, f2, A0, c0, f3, k0⟩ := e0
      have g0 := (cellNext hbl hbw _).trans f0
      have g1 := (cellNext hbl hbw _).trans f1
      have g2 := (cellNext hbl hbw _).trans f2
      have g3 := (cellNext hbl hbw _).trans f3
      clear f0 f1 f2 f3
      subst hA
      have HT := Lib.hid (show (xs.take (i + 1)).flatMap p = (xs.take i).flatMap p ++ p xs[i] by
        rw [List.take_succ_eq_append_getElem hm, List.flatMap_append]
        simp)
      obtain ⟨ob, hob⟩ : ∃ o, Obj.cells #[.string xs[i].s, .int .i64 xs[i].b, .int .i64 xs[i].p, .slice A0 xs[i].l.length c0] 60 (0, 0) = o := ⟨_, rfl⟩
      have HCI := Lib.hid (HC.out xs[i] (List.getElem_mem hm) A0 c0 k0 _ (wr.alloc ob) (HLI.out.alloc ob) (by
        have h1 := HL.out
        have h2 : ((xs.take (i + 1)).flatMap p).length ≤ (xs.flatMap p).length := by
          have e : xs.flatMap p = (xs.take (i + 1)).flatMap p ++ (xs.drop (i + 1)).flatMap p := by rw [← List.flatMap_append, List.take_append_drop]
          rw [e, List.length_append]; omega
        rw [HT.out, List.length_append] at h2
        rw [List.length_append, List.length_append]
        omega))
      rw [List.append_assoc, ← HT.out] at HCI
      obtain ⟨⟨ys, yb, yp, yl⟩, hx⟩ : ∃ x, xs[i] = x := ⟨_, rfl⟩
      rw [hx] at g0 g1 g2 g3 HCI hob
      dsimp only at g0 g1 g2 g3 HCI hob
      have hk0 : (0 : Int) ≤ (i : Int) := Int.natCast_nonneg _
      have hk1 : (i : Int) < (n : Int) := by omega
      have HLT := Lib.hid hlt
      have HBW := Lib.hid hbw
      subst hob
      clear hx hm hlt hbl k0 hbw HT
      go_wp2_with fail
      rw [HCF.out]
      refine Calls.mono HCI.out ?_
      rintro r w2 ⟨rfl, h2⟩
      have H2 := Lib.hid (show Lies B b W (l ++ numL n ++ (xs.take (i + 1)).flatMap p) w2 from (HLI.out.alloc _).then_ h2)
      clear h2
      go_wp2_with fail
      go_roundw
      case rel => exact ⟨i + 1, HLT.out, by go_num, H2.out⟩
      case measure => have := HLT.out; simp [intOf]; omega
    · have hd : decide ((i : Int) < (n : Int)) = false := by simp; omega
      have HF := Lib.hid (show Lies B b W (l ++ numL n ++ (xs.take n).flatMap p) wr by
        have h := HLI.out
        have h2 := HN.out
        rw [List.take_of_length_le (by omega)] at h ⊢
        exact h)
      go_wp2_with fail
      go_end0
      exact ⟨rfl, HF.out⟩
set_option maxRecDepth 100000 in
set_option maxHeartbeats 4000000 in
theorem layGls_any (p : Gl → List UInt8) (g : FuncId) (bd caps : Array Value) (w0 : World) (B b : Nat) (l : List UInt8) (xs : List Gl) (A : Option Addr) (n c : Nat) (W : World) (hB : w0.heap.size = B) (h : Lies B b W l W) (hw : Below B w0 W) (hn : xs.length = n) (h9 : n ≤ 1000) (hS : Globs w0 (.slice A n c) xs)
    (M : Nat) (hM : M ≤ 99000000) (hl : l.length + (rowL p xs).length ≤ M) (hcf : ∀ args U, (callFunc g args).run Try.prog U = .ok (.enter g args) U)
    (hC : ∀ x ∈ xs, ∀ l' U, Lies B b W l' U → l'.length + (p x).length ≤ M → Calls Try.prog g (bd ++ #[.agg #[.string x.s, .int .i64 x.b, .bool x.h, .int .u64 x.i]] ++ caps) U fun e w' => e = .returned (.tuple #[]) ∧ Lies B b U (l' ++ p x) w') :
    Calls Try.prog 37 #[.pointer (some ⟨b, 0, none⟩), .slice A n c, .func (.func g) bd caps] W fun e w' => e = .returned (.tuple #[]) ∧ Lies B b W (l ++ rowL p xs) w' := by
  have HN := Lib.hid (show xs.length ≤ n ∧ n ≤ xs.length by omega)
  have HS := Lib.hid hS
  have HC := Lib.hid hC
  have HCF := Lib.hid hcf
  have n1 : (n : Int) ≤ 1000 := by omega
  have wn : IntKind.u64.wrap (n : Int) = (n : Int) := IntWalk.u64_in _ (by omega)
  have HW := Lib.hid (show ∀ U, Below B W U → Below w0.heap.size w0 U from fun U hU => by rw [hB]; exact hw.trans hU)
  have HL := Lib.hid (show l.length + (numL n).length + (xs.flatMap p).length ≤ M by
    unfold rowL at hl
    rw [List.length_append, hn] at hl
    omega)
  have HR := Lib.hid (show l ++ rowL p xs = l ++ numL n ++ (xs.take n).flatMap p by
    rw [List.take_of_length_le (by omega)]
    unfold rowL
    rw [hn, List.append_assoc])
  have hc : Calls Try.prog 23 #[.pointer (some ⟨b, 0, none⟩), .slice (some ⟨W.heap.size, 0, none⟩) 1 1] (W.alloc (.cells #[.int .u64 n] 35)) fun e w' => e = .returned (.tuple #[]) ∧ Lies B b W (l ++ numL n) w' := by
    have h := nums_put B b l [n] W W h (by simp) (fun v hv => by rw [List.mem_singleton] at hv; omega) (by omega)
    rw [show numsQ [n] = numL n by simp [numsQ]] at h
    exact h
  have HNUM := Lib.hid hc
  rw [HR.out]
  clear hS hC hcf hn h9 hw hl h hc hB HR hM
  go_enter Try.func37, Try.ntmps37
  go_wp2_with fail
  refine HNUM.out.mono ?_
  rintro e wa ⟨rfl, ha⟩
  have HA := Lib.hid ha
  clear ha
  go_wp2_with fail
  go_loopw [16] (fun iv wr => ∃ i : Nat, i ≤ n ∧ iv = .int .i64 i ∧ Lies B b W (l ++ numL n ++ (xs.take i).flatMap p) wr) (fun iv _ => n - (intOf iv).toNat)
  case atStart => exact ⟨0, Nat.zero_le _, rfl, by simpa using HA.out⟩
  case round =>
    obtain ⟨i, hi, rfl, hLi⟩ := hrel
    have HLI := Lib.hid hLi
    clear hLi
    by_cases hlt : i < n
    · have hm : i < xs.length := by have := HN.out; omega
      have hbw := HW.out wr HLI.out.k.below
      obtain ⟨b1, off, hA, hbl, e0⟩ := RowOf.at_ HS.out hm
      obtain ⟨f0, f1, f2, f3⟩ := e0
      have g0 := (cellNext hbl hbw _).trans f0
      have g1 := (cellNext hbl hbw _).trans f1
      have g2 := (cellNext hbl hbw _).trans f2
      have g3 := (cellNext hbl hbw _).trans f3
      clear f0 f1 f2 f3
      subst hA
      have HT := Lib.hid (show (xs.take (i + 1)).flatMap p = (xs.take i).flatMap p ++ p xs[i] by
        rw [List.take_succ_eq_append_getElem hm, List.flatMap_append]
        simp)
      obtain ⟨ob, hob⟩ : ∃ o, Obj.cells #[.string xs[i].s, .int .i64 xs[i].b, .bool xs[i].h, .int .u64 xs[i].i] 62 (0, 0) = o := ⟨_, rfl⟩
      have HCI := Lib.hid (HC.out xs[i] (List.getElem_mem hm) _ (wr.alloc ob) (HLI.out.alloc ob) (by
        have h1 := HL.out
        have h2 : ((xs.take (i + 1)).flatMap p).length ≤ (xs.flatMap p).length := by
          have e : xs.flatMap p = (xs.take (i + 1)).flatMap p ++ (xs.drop (i + 1)).flatMap p := by rw [← List.flatMap_append, List.take_append_drop]
          rw [e, List.length_append]; omega
        rw [HT.out, List.length_append] at h2
        rw [List.length_append, List.length_append]
        omega))
      rw [List.append_assoc, ← HT.out] at HCI
      obtain ⟨⟨ys, yb, yh, yi⟩, hx⟩ : ∃ x, xs[i] = x := ⟨_, rfl⟩
      rw [hx] at g0 g1 g2 g3 HCI hob
      dsimp only at g0 g1 g2 g3 HCI hob
      have hk0 : (0 : Int) ≤ (i : Int) := Int.natCast_nonneg _
      have hk1 : (i : Int) < (n : Int) := by omega
      have HLT := Lib.hid hlt
      have HBW := Lib.hid hbw
      subst hob
      clear hx hm hlt hbl hbw HT
      go_wp2_with fail
      rw [HCF.out]
      refine Calls.mono HCI.out ?_
      rintro r w2 ⟨rfl, h2⟩
      have H2 := Lib.hid (show Lies B b W (l ++ numL n ++ (xs.take (i + 1)).flatMap p) w2 from (HLI.out.alloc _).then_ h2)
      clear h2
      go_wp2_with fail
      go_roundw
      case rel => exact ⟨i + 1, HLT.out, by go_num, H2.out⟩
      case measure => have := HLT.out; simp [intOf]; omega
    · have hd : decide ((i : Int) < (n : Int)) = false := by simp; omega
      have HF := Lib.hid (show Lies B b W (l ++ numL n ++ (xs.take n).flatMap p) wr by
        have h := HLI.out
        have h2 := HN.out
        rw [List.take_of_length_le (by omega)] at h ⊢
        exact h)
      go_wp2_with fail
      go_end0
      exact ⟨rfl, HF.out⟩
end Q
end Go.Proofs.Ytjldddpchiaalaa
