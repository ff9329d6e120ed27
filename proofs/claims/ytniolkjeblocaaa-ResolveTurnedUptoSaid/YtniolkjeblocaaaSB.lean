/- The reference of package resolve: places of names, equal rows of definitions. Package resolve: Find. The reference of package resolve: what is wrong with a name's items. The reference of package resolve: a name's items. Package resolve and its reference say the same of what is wrong with a name: pure. Package resolve: functions and globals as items. The reference of package resolve: the items of all modules. The reference of package resolve: Items. -/
import Derived.Test.YtniolkjeblocaaaSA
import Derived.Test.YtniolkjeblocaaaH1
namespace Go.Proofs.Ytniolkjeblocaaa
open Go.RowKit

/-- a definition -/
structure Df where
  s : ByteArray
  o : Int
  f : Bool
  w : Bool
  h : Bool
def DfIn (W : World) (b off : Nat) (x : Df) : Prop :=
  W.cell? ⟨b, off, none⟩ = some (.string x.s) ∧ W.cell? ⟨b, off + 1, none⟩ = some (.int .i64 x.o) ∧ W.cell? ⟨b, off + 2, none⟩ = some (.bool x.f) ∧ W.cell? ⟨b, off + 3, none⟩ = some (.bool x.w) ∧ W.cell? ⟨b, off + 4, none⟩ = some (.bool x.h)
theorem DfIn.next (W W' : World) (b off : Nat) (x : Df) (hb : b < W.heap.size) (h : Below W.heap.size W W') (hx : DfIn W b off x) : DfIn W' b off x := by
  obtain ⟨h0, h1, h2, h3, h4⟩ := hx
  exact ⟨(cellNext hb h _).trans h0, (cellNext hb h _).trans h1, (cellNext hb h _).trans h2, (cellNext hb h _).trans h3, (cellNext hb h _).trans h4⟩
def Dfs : World → Value → List Df → Prop := RowOf 5 DfIn
theorem Dfs.next {W W' : World} {v : Value} {l : List Df} (h : Dfs W v l) (hb : Below W.heap.size W W') : Dfs W' v l := RowOf.next DfIn.next h hb
/-- the place of a name's; below 0: there is none -/
def findD (s : ByteArray) (l : List Df) : Int := if l.any (fun d => d.s == s) then (l.findIdx (fun d => d.s == s) : Nat) else -1
theorem findD_at {s : ByteArray} {xs : List Df} {i : Nat} (hi : i < xs.length) (h : (xs.take i).any (fun d => d.s == s) = false) (h1 : (xs[i].s == s) = true) : findD s xs = i := by
  unfold findD
  rw [if_pos (List.any_eq_true.2 ⟨_, List.getElem_mem hi, h1⟩)]
  congr 1
  rw [List.findIdx_eq hi]
  refine ⟨h1, fun j hj => ?_⟩
  have h2 := List.any_eq_false.1 h xs[j] (List.mem_take_iff_getElem.2 ⟨j, by omega, rfl⟩)
  simpa using h2
theorem findD_no {s : ByteArray} {xs : List Df} (h : xs.any (fun d => d.s == s) = false) : findD s xs = -1 := by unfold findD; rw [h]; rfl
set_option maxRecDepth 100000 in
set_option maxHeartbeats 4000000 in
theorem refFind9_any (s : ByteArray) (xs : List Df) (A : Option Addr) (n c : Nat) (w : World) (hn : xs.length = n) (h9 : n ≤ 9223372036854775807) (hS : Dfs w (.slice A n c) xs) :
    Calls Try.prog 28 #[.slice A n c, .string s] w fun e w' => e = .returned (.int .i64 (findD s xs)) ∧ Below w.heap.size w w' := by
  have HN := Lib.hid (show xs.length ≤ n ∧ n ≤ xs.length by omega)
  have HS := Lib.hid hS
  have n1 : (n : Int) ≤ 9223372036854775807 := by omega
  obtain ⟨V, hV⟩ : ∃ V, findD s xs = V := ⟨_, rfl⟩
  have HE := Lib.hid hV
  rw [hV]
  clear hS hn h9 hV
  go_enter Try.func28, Try.ntmps28
  go_wp2_with fail
  go_loopw [5] (fun iv wr => ∃ i : Nat, i ≤ n ∧ iv = .int .i64 i ∧ (xs.take i).any (fun d => d.s == s) = false ∧ Below w.heap.size w wr) (fun iv _ => n - (intOf iv).toNat)
  case atStart => exact ⟨0, Nat.zero_le _, rfl, rfl, Below.refl _ _⟩
  case round =>
    obtain ⟨i, hi, rfl, hs, hb⟩ := hrel
    have HT := Lib.hid hs
    have HB := Lib.hid hb
    clear hs
    by_cases hlt : i < n
    · have hm : i < xs.length := by have := HN.out; omega
      obtain ⟨b1, off, hA, hbl, e0⟩ := RowOf.at_ (HS.out.next hb) hm
      subst hA
      obtain ⟨g0, -⟩ := e0
      have HY := Lib.hid (show (xs[i].s == s) = true → V = (i : Int) from fun h => by rw [← HE.out]; exact findD_at hm HT.out h)
      have HNX := Lib.hid (show (xs[i].s == s) = false → (xs.take (i + 1)).any (fun d => d.s == s) = false from fun h => by
        rw [List.take_succ_eq_append_getElem hm, List.any_append, HT.out]
        simp [h])
      obtain ⟨s0, hx⟩ : ∃ x, xs[i].s = x := ⟨_, rfl⟩
      rw [hx] at g0 HY HNX
      have hk0 : (0 : Int) ≤ (i : Int) := Int.natCast_nonneg _
      have hk1 : (i : Int) < (n : Int) := by omega
      have HLT := Lib.hid hlt
      clear hx hm hlt hbl hb
      cases hq : (s0 == s) with
      | true =>
        have HV := Lib.hid (HY.out hq)
        have hq2 : (s0.toList == s.toList) = true := by rw [← beq_toListBytes]; exact hq
        go_wp2_with fail
        go_ret
        exact ⟨by rw [HV.out]; first | done | rfl, HB.out⟩
      | false =>
        have HV := Lib.hid (HNX.out hq)
        have hq2 : (s0.toList == s.toList) = false := by rw [← beq_toListBytes]; exact hq
        go_wp2_with fail
        go_roundw
        case rel => exact ⟨i + 1, HLT.out, by go_num, HV.out, HB.out⟩
        case measure => have := HLT.out; simp [intOf]; omega
    · have hd : decide ((i : Int) < (n : Int)) = false := by simp; omega
      have HV := Lib.hid (show V = -1 by
        have h := HT.out
        rw [List.take_of_length_le (by have := HN.out; omega)] at h
        rw [← HE.out, findD_no h])
      go_wp2_with fail
      go_ret
      exact ⟨by rw [HV.out]; first | done | rfl, HB.out⟩
theorem str_otherD {a b : ByteArray} (h : a ≠ b) : (a == b) = false ∧ (a.toList == b.toList) = false := by
  have h1 : (a == b) = false := by
    cases h1 : (a == b) with
    | false => rfl
    | true => exact absurd ((jba_beq a b).1 h1) h
  exact ⟨h1, by rw [← beq_toListBytes]; exact h1⟩
def sameD (x y : Df) : Bool := x.s == y.s && (x.o == y.o && (x.f == y.f && (x.w == y.w && x.h == y.h)))
set_option maxRecDepth 100000 in
set_option maxHeartbeats 4000000 in
theorem refSame9_any (xs ys : List Df) (A B : Option Addr) (n c n' c' : Nat) (w : World) (hn : xs.length = n) (hn' : ys.length = n') (h9 : n ≤ 9223372036854775807) (hS : Dfs w (.slice A n c) xs) (hS' : Dfs w (.slice B n' c') ys) :
    Calls Try.prog 24 #[.slice A n c, .slice B n' c'] w fun e w' => e = .returned (.bool (listB sameD xs ys)) ∧ Below w.heap.size w w' := by
  have HN := Lib.hid (show xs.length ≤ n ∧ n ≤ xs.length by omega)
  have HN' := Lib.hid (show ys.length ≤ n' ∧ n' ≤ ys.length by omega)
  have HS := Lib.hid hS
  have HS' := Lib.hid hS'
  have n1 : (n : Int) ≤ 9223372036854775807 := by omega
  obtain ⟨V, hV⟩ : ∃ V, listB sameD xs ys = V := ⟨_, rfl⟩
  have HE := Lib.hid hV
  rw [hV]
  clear hS hS' hn hn' h9 hV
  go_enter Try.func24, Try.ntmps24
  by_cases hl : n = n'
  case neg =>
    have nl : ((n : Int) == (n' : Int)) = false := by simp; omega
    have HV := Lib.hid (show V = false by rw [← HE.out, listB_len (by have := HN.out; have := HN'.out; omega)])
    go_wp2_with fail
    go_ret
    exact ⟨by rw [HV.out]; rfl, Below.refl _ _⟩
  subst hl
  go_wp2_with fail
  go_loopw [5] (fun iv wr => ∃ i : Nat, i ≤ n ∧ iv = .int .i64 i ∧ ((xs.take i).zip (ys.take i)).all (fun x => sameD x.1 x.2) = true ∧ Below w.heap.size w wr) (fun iv _ => n - (intOf iv).toNat)
  case atStart => exact ⟨0, Nat.zero_le _, rfl, by simp, Below.refl _ _⟩
  case round =>
    obtain ⟨i, hi, rfl, hs, hb⟩ := hrel
    have HT := Lib.hid hs
    have HB := Lib.hid hb
    clear hs
    by_cases hlt : i < n
    case neg =>
      have hd : decide ((i : Int) < (n : Int)) = false := by simp; omega
      have HV := Lib.hid (show V = true by
        have h := HT.out
        rw [List.take_of_length_le (by have := HN.out; omega), List.take_of_length_le (by have := HN'.out; omega)] at h
        rw [← HE.out]
        unfold listB
        rw [h, show (xs.length == ys.length) = true by have := HN.out; have := HN'.out; simp; omega]
        rfl)
      go_wp2_with fail
      go_ret
      exact ⟨by rw [HV.out]; first | done | rfl, HB.out⟩
    case pos =>
      have hm : i < xs.length := by have := HN.out; omega
      have hk : i < ys.length := by have := HN'.out; omega
      obtain ⟨b1, off, hA, hbl, g0, g1, g2, g3, g4⟩ := RowOf.at_ (HS.out.next hb) hm
      obtain ⟨b2, off2, hA2, hbl2, k0, k1, k2, k3, k4⟩ := RowOf.at_ (HS'.out.next hb) hk
      subst hA hA2
      have HNX := Lib.hid (zip_take hm hk HT.out)
      have HV0 := Lib.hid (fun h => HE.out.symm.trans (zip_no (p := sameD) hm hk h))
      obtain ⟨⟨s0, o0, f0, w0, h0⟩, hx⟩ : ∃ x, xs[i] = x := ⟨_, rfl⟩
      obtain ⟨⟨s1, o1, f1, w1, h1⟩, hy⟩ : ∃ y, ys[i] = y := ⟨_, rfl⟩
      rw [hx] at g0 g1 g2 g3 g4 HNX HV0
      rw [hy] at k0 k1 k2 k3 k4 HNX HV0
      dsimp only at g0 g1 g2 g3 g4 k0 k1 k2 k3 k4
      have hk0 : (0 : Int) ≤ (i : Int) := Int.natCast_nonneg _
      have hk1 : (i : Int) < (n : Int) := by omega
      have HLT := Lib.hid hlt
      clear hx hy hm hk hlt hb hbl hbl2
      by_cases e1 : s0 = s1
      case neg =>
        obtain ⟨hs1, hs2⟩ := str_otherD e1
        have HV := Lib.hid (HV0.out (by simp [sameD, hs1]))
        go_upto_region 6 with fail
        go_quiet (fail)
        go_wp2_with fail
        go_ret
        exact ⟨by rw [HV.out]; first | done | rfl, bthen HB.out (drewN_below' _ nq)⟩
      subst e1
      have hss : (s0 == s0) = true := (jba_beq _ _).2 rfl
      have hst : (s0.toList == s0.toList) = true := by simp
      by_cases e2 : o0 = o1
      case neg =>
        have ho : (o0 == o1) = false := by simpa using e2
        have HV := Lib.hid (HV0.out (by simp [sameD, hss, e2]))
        go_upto_region 6 with fail
        go_quiet (fail)
        go_wp2_with fail
        go_ret
        exact ⟨by rw [HV.out]; first | done | rfl, bthen HB.out (drewN_below' _ nq)⟩
      subst e2
      by_cases ef : f0 = f1
      case neg =>
        cases f0 <;> cases f1 <;> first | exact absurd rfl ef | skip
        all_goals
          have HV := Lib.hid (HV0.out (by simp [sameD, hss]))
          go_upto_region 6 with fail
          go_quiet (fail)
          go_wp2_with fail
          go_ret
          exact ⟨by rw [HV.out]; first | done | rfl, bthen HB.out (drewN_below' _ nq)⟩
      subst ef
      by_cases ew : w0 = w1
      case neg =>
        cases w0 <;> cases w1 <;> first | exact absurd rfl ew | skip
        all_goals
          have HV := Lib.hid (HV0.out (by simp [sameD, hss]))
          go_upto_region 6 with fail
          go_quiet (fail)
          go_wp2_with fail
          go_ret
          exact ⟨by rw [HV.out]; first | done | rfl, bthen HB.out (drewN_below' _ nq)⟩
      subst ew
      by_cases eh : h0 = h1
      case neg =>
        cases h0 <;> cases h1 <;> first | exact absurd rfl eh | skip
        all_goals
          have HV := Lib.hid (HV0.out (by simp [sameD, hss]))
          go_upto_region 6 with fail
          go_quiet (fail)
          go_wp2_with fail
          go_ret
          exact ⟨by rw [HV.out]; first | done | rfl, bthen HB.out (drewN_below' _ nq)⟩
      subst eh
      have HV := Lib.hid (show ((xs.take (i + 1)).zip (ys.take (i + 1))).all (fun x => sameD x.1 x.2) = true by rw [HNX.out]; simp [sameD, hss])
      go_upto_region 6 with fail
      go_quiet (fail)
      go_wp2_with fail
      go_roundw
      case rel => exact ⟨i + 1, HLT.out, by go_num, HV.out, bthen HB.out (drewN_below' _ nq)⟩
      case measure => have := HLT.out; simp [intOf]; omega
end Go.Proofs.Ytniolkjeblocaaa

namespace Go.Proofs.Ytniolkjeblocaaa
open Go.RowKit

def dfV (x : Df) : Value := .agg #[.string x.s, .int .i64 x.o, .bool x.f, .bool x.w, .bool x.h]
/-- the first place of one that is so; below 0: there is none -/
def idxD (p : Df → Bool) (xs : List Df) : Int := if xs.any p then (xs.findIdx p : Nat) else -1
theorem idxD_at {p : Df → Bool} {xs : List Df} {i : Nat} (hi : i < xs.length) (h : (xs.take i).any p = false) (h1 : p xs[i] = true) : idxD p xs = i := by
  unfold idxD
  rw [if_pos (List.any_eq_true.2 ⟨_, List.getElem_mem hi, h1⟩)]
  congr 1
  rw [List.findIdx_eq hi]
  refine ⟨h1, fun j hj => ?_⟩
  have h2 := List.any_eq_false.1 h xs[j] (List.mem_take_iff_getElem.2 ⟨j, by omega, rfl⟩)
  simpa using h2
theorem idxD_no {p : Df → Bool} {xs : List Df} (h : xs.any p = false) : idxD p xs = -1 := by unfold idxD; rw [h]; rfl
set_option maxRecDepth 100000 in
set_option maxHeartbeats 4000000 in
theorem indexD_any (p : Df → Bool) (g : FuncId) (caps : Array Value) (xs : List Df) (A : Option Addr) (n c : Nat) (w : World) (hn : xs.length = n) (h9 : n ≤ 9223372036854775807) (hS : Dfs w (.slice A n c) xs) (hcf : ∀ args U, (callFunc g args).run Try.prog U = .ok (.enter g args) U)
    (hC : ∀ x ∈ xs, ∀ U, Below w.heap.size w U → Calls Try.prog g (#[dfV x] ++ caps) U fun e w' => e = .returned (.bool (p x)) ∧ Below U.heap.size U w') :
    Calls Try.prog 53 #[.slice A n c, .func (.func g) #[] caps] w fun e w' => e = .returned (.int .i64 (idxD p xs)) ∧ Below w.heap.size w w' := by
  have HN := Lib.hid (show xs.length ≤ n ∧ n ≤ xs.length by omega)
  have HS := Lib.hid hS
  have HC := Lib.hid hC
  have HCF := Lib.hid hcf
  have n1 : (n : Int) ≤ 9223372036854775807 := by omega
  obtain ⟨V, hV⟩ : ∃ V, idxD p xs = V := ⟨_, rfl⟩
  have HE := Lib.hid hV
  rw [hV]
  clear hS hC hcf hn h9 hV
  go_enter Try.func53, Try.ntmps53
  go_wp2_with fail
  go_loopw [8] (fun iv wr => ∃ i : Nat, i ≤ n ∧ iv = .int .i64 i ∧ (xs.take i).any p = false ∧ Below w.heap.size w wr) (fun iv _ => n - (intOf iv).toNat)
  case atStart => exact ⟨0, Nat.zero_le _, rfl, rfl, Below.refl _ _⟩
  case round =>
    obtain ⟨i, hi, rfl, hs, hb⟩ := hrel
    have HT := Lib.hid hs
    have HB := Lib.hid hb
    clear hs
    by_cases hlt : i < n
    · have hm : i < xs.length := by have := HN.out; omega
      obtain ⟨b1, off, hA, hbl, e0⟩ := RowOf.at_ (HS.out.next hb) hm
      subst hA
      have HY := Lib.hid (show p xs[i] = true → V = (i : Int) from fun h => by rw [← HE.out]; exact idxD_at hm HT.out h)
      have HNX := Lib.hid (show p xs[i] = false → (xs.take (i + 1)).any p = false from fun h => by
        rw [List.take_succ_eq_append_getElem hm, List.any_append, HT.out]
        simp [h])
      have HCI := Lib.hid (HC.out xs[i] (List.getElem_mem hm) wr hb)
      obtain ⟨⟨s0, o0, f0, w0, h0⟩, hx⟩ : ∃ x, xs[i] = x := ⟨_, rfl⟩
      rw [hx] at e0 HY HNX HCI
      obtain ⟨g0, g1, g2, g3, g4⟩ := e0
      obtain ⟨Q, hQ⟩ : ∃ Q, p ⟨s0, o0, f0, w0, h0⟩ = Q := ⟨_, rfl⟩
      rw [hQ] at HY HNX HCI
      unfold dfV at HCI
      dsimp only at HCI
      have hk0 : (0 : Int) ≤ (i : Int) := Int.natCast_nonneg _
      have hk1 : (i : Int) < (n : Int) := by omega
      have HLT := Lib.hid hlt
      clear hx hm hlt hbl hb hQ
      go_wp2_with fail
      rw [HCF.out]
      refine Calls.mono HCI.out ?_
      rintro r w2 ⟨rfl, hb2⟩
      have HB2 := Lib.hid (bthen HB.out hb2)
      clear hb2
      cases Q with
      | true =>
        have HV := Lib.hid (HY.out rfl)
        go_wp2_with fail
        go_ret
        exact ⟨by rw [HV.out]; rfl, HB2.out⟩
      | false =>
        have HV := Lib.hid (HNX.out rfl)
        go_wp2_with fail
        go_roundw
        case rel => exact ⟨i + 1, HLT.out, by go_num, HV.out, HB2.out⟩
        case measure => have := HLT.out; simp [intOf]; omega
    · have hd : decide ((i : Int) < (n : Int)) = false := by simp; omega
      have HV := Lib.hid (show V = -1 by
        have h := HT.out
        rw [List.take_of_length_le (by have := HN.out; omega)] at h
        rw [← HE.out, idxD_no h])
      go_wp2_with fail
      go_ret
      exact ⟨by rw [HV.out]; rfl, HB.out⟩
theorem find_at (p : Df → Bool) (xs : List Df) : xs.find? p = xs[xs.findIdx p]? := by
  induction xs with
  | nil => rfl
  | cons x xs ih =>
    rw [List.find?_cons, List.findIdx_cons]
    cases p x <;> simp [ih]
theorem results_def {fn : Func} {p q : Tmp} (h : fn.results = #[.cell p 49, .tmp q]) (tmps : Array Value) (w : World) (R : Nat) (cs : Array Value) (t : TypeId) (b : Value) (hp : tmps.getD p undef = .pointer (some ⟨R, 0, none⟩)) (hq : tmps.getD q undef = b) (hM : w.heap[R]? = some (.cells cs t (0, 0))) (hc : cs.size = 5) :
    (results fn tmps).run Try.prog w = .ok (.tuple #[.agg cs, b]) w := by
  have hp' : tmps[p]?.getD undef = .pointer (some ⟨R, 0, none⟩) := by simpa using hp
  have hq' : tmps[q]?.getD undef = b := by simpa using hq
  have hl := run_loadVar_row (P := Try.prog) w R _ 49 _ _ _ hM Try.underlying49 rfl (by rw [hc]; exact def_info)
  simp [results, h, hp', hq', asAddr, hl]
theorem cf_fd : ∀ args U, (callFunc 54 args).run Try.prog U = .ok (.enter 54 args) U := fun _ _ => by kernel_rfl
set_option maxRecDepth 100000 in
theorem find1_any (x : Df) (s : ByteArray) (X : Nat) (w : World) (h0 : w.cell? ⟨X, 0, none⟩ = some (.string s)) :
    Calls Try.prog 54 #[dfV x, .pointer (some ⟨X, 0, none⟩)] w fun e w' => e = .returned (.bool (x.s == s)) ∧ Below w.heap.size w w' := by
  obtain ⟨s0, o0, f0, w0, h00⟩ := x
  have hX := World.block_lt_of_cell? w _ h0
  have HB0 := Lib.hid (balloc (Below.refl _ w) (.cells #[.string s0, .int .i64 o0, .bool f0, .bool w0, .bool h00] 49))
  have g0 := (cellNext hX HB0.out 0).trans h0
  unfold dfV
  dsimp only
  clear hX h0
  go_enter Try.func54, Try.ntmps54
  go_wp2_with fail
  go_ret
  exact ⟨by first | rfl | simp [beq_toListBytes], HB0.out⟩
set_option maxRecDepth 100000 in
set_option maxHeartbeats 4000000 in
theorem find_any (s : ByteArray) (xs : List Df) (A : Option Addr) (n c : Nat) (w : World) (hn : xs.length = n) (h9 : n ≤ 9223372036854775807) (hS : Dfs w (.slice A n c) xs) :
    Calls Try.prog 27 #[.slice A n c, .string s] w fun e w' => (match xs.find? (fun d => d.s == s) with
      | none => e = .returned (.tuple #[.agg #[.string ⟨#[]⟩, .int .i64 0, .bool false, .bool false, .bool false], .bool false])
      | some d => e = .returned (.tuple #[dfV d, .bool true])) ∧ Below w.heap.size w w' := by
  have HI := Lib.hid (fun (U : World) (X : Nat) (hU : Below w.heap.size w U) (h0 : U.cell? ⟨X, 0, none⟩ = some (.string s)) => indexD_any (fun d => d.s == s) 54 #[.pointer (some ⟨X, 0, none⟩)] xs A n c U hn h9 (hS.next hU) cf_fd (fun x _ V hV => find1_any x s X V ((cellNext (World.block_lt_of_cell? U _ h0) hV _).trans h0)))
  obtain ⟨B, hB⟩ : ∃ B, w.heap.size = B := ⟨_, rfl⟩
  obtain ⟨W0, hW0⟩ : ∃ W0, W0 = (w.alloc (.cells #[.string s] 9)).alloc (.cells #[.string ⟨#[]⟩, .int .i64 0, .bool false, .bool false, .bool false] 49) := ⟨_, rfl⟩
  have HB0 := Lib.hid (show Below w.heap.size w W0 from hW0 ▸ balloc (balloc (Below.refl _ w) _) _)
  have hsz : W0.heap.size = B + 2 := by rw [hW0, ← hB]; simp
  have hz0 : W0.heap[B]? = some (.cells #[.string s] 9 (0, 0)) := by
    rw [hW0, ← hB]
    rw [Lib.alloc_old _ _ _ (by simp)]
    exact heap_alloc_new _ _
  have hz1 : W0.heap[B + 1]? = some (.cells #[.string ⟨#[]⟩, .int .i64 0, .bool false, .bool false, .bool false] 49 (0, 0)) := by
    have h := heap_alloc_new (w.alloc (.cells #[.string s] 9)) (.cells #[.string ⟨#[]⟩, .int .i64 0, .bool false, .bool false, .bool false] 49)
    rw [show (w.alloc (.cells #[.string s] 9)).heap.size = B + 1 by simp [hB], ← hW0] at h
    exact h
  have HZ := Lib.hid (fun (U : World) (hU : Below W0.heap.size W0 U) => (hU.block (B + 1) (by omega)).trans hz1)
  have HBL := Lib.hid (show w.heap.size ≤ B + 1 by omega)
  have HCA := Lib.hid (HI.out W0 B HB0.out (Lib.cell_of_heap hz0 0))
  rw [find_at]
  cases hb : xs.any (fun d => d.s == s) with
  | false =>
    rw [idxD_no hb] at HCA
    rw [show xs[xs.findIdx (fun d => d.s == s)]? = none from by
      rw [← find_at, List.find?_eq_none]
      intro x hx
      simpa using List.any_eq_false.1 hb x hx]
    go_enter Try.func27, Try.ntmps27
    go_wp2_with fail
    rw [← hW0]
    clear hz0 hz1 hW0 HI
    refine HCA.out.mono ?_
    rintro r w1 ⟨rfl, hb1⟩
    have HB1 := Lib.hid hb1
    have hz := HZ.out _ hb1
    have HRES := Lib.hid (setRow_heap w1 (B + 1) _ #[.string ⟨#[]⟩, .int .i64 0, .bool false, .bool false, .bool false] _ _ hz)
    have HFIN := Lib.hid (below_setRowp (cells := #[.string ⟨#[]⟩, .int .i64 0, .bool false, .bool false, .bool false]) (bthen HB0.out HB1.out) HBL.out)
    have HZ1 := Lib.hid hz
    clear hb hS hn h9 HCA HZ hz hb1
    go_wp2_with (refine wpList_store_row rfl _ _ _ rfl (B + 1) #[.string ⟨#[]⟩, .int .i64 0, .bool false, .bool false, .bool false] rfl rfl _ _ HZ1.out def_info rfl (by simp [Value.oneCell']) ?_)
    exact bodyPost_ret (results_def Try.results27 _ _ (B + 1) #[.string ⟨#[]⟩, .int .i64 0, .bool false, .bool false, .bool false] _ _ rfl rfl HRES.out rfl) rfl ⟨rfl, HFIN.out⟩
  | true =>
    obtain ⟨k, hk⟩ : ∃ k, xs.findIdx (fun d => d.s == s) = k := ⟨_, rfl⟩
    have hkl : k < xs.length := by rw [← hk]; exact List.findIdx_lt_length_of_exists (List.any_eq_true.1 hb)
    rw [show idxD (fun d => d.s == s) xs = (k : Int) by unfold idxD; rw [if_pos hb, hk]] at HCA
    rw [hk, List.getElem?_eq_getElem hkl]
    obtain ⟨⟨s0, o0, f0, w0, h0⟩, hz2⟩ : ∃ z, xs[k] = z := ⟨_, rfl⟩
    rw [hz2]
    dsimp only
    go_enter Try.func27, Try.ntmps27
    go_wp2_with fail
    rw [← hW0]
    clear hz0 hz1 hW0 HI
    refine HCA.out.mono ?_
    rintro r w1 ⟨rfl, hb1⟩
    have HB1 := Lib.hid hb1
    have hz := HZ.out _ hb1
    obtain ⟨b, off, hA, hbl, g0, g1, g2, g3, g4⟩ := RowOf.at_ (hS.next (bthen HB0.out hb1)) hkl
    subst hA
    rw [hz2] at g0 g1 g2 g3 g4
    dsimp only at g0 g1 g2 g3 g4
    have k0 : (0 : Int) ≤ (k : Int) := Int.natCast_nonneg _
    have k1 : (k : Int) < (n : Int) := by omega
    have n9 : (n : Int) ≤ 9223372036854775807 := by omega
    have HRES := Lib.hid (setRow_heap w1 (B + 1) _ #[.string s0, .int .i64 o0, .bool f0, .bool w0, .bool h0] _ _ hz)
    have HFIN := Lib.hid (below_setRowp (cells := #[.string s0, .int .i64 o0, .bool f0, .bool w0, .bool h0]) (bthen HB0.out HB1.out) HBL.out)
    have HZ1 := Lib.hid hz
    clear hb hS hn h9 HCA HZ hz hb1 hk hkl hz2 hbl
    go_wp2_with (refine wpList_store_row rfl _ _ _ rfl (B + 1) #[.string s0, .int .i64 o0, .bool f0, .bool w0, .bool h0] rfl rfl _ _ HZ1.out def_info rfl (by simp [Value.oneCell']) ?_)
    exact bodyPost_ret (results_def Try.results27 _ _ (B + 1) #[.string s0, .int .i64 o0, .bool f0, .bool w0, .bool h0] _ _ rfl rfl HRES.out rfl) rfl ⟨rfl, HFIN.out⟩
end Go.Proofs.Ytniolkjeblocaaa

namespace Go.Proofs.Ytniolkjeblocaaa
open Go.RowKit

/-- an item as the reference keeps it -/
def RfIn (W : World) (b off : Nat) (x : Ri) : Prop :=
  W.cell? ⟨b, off, none⟩ = some (.string x.s) ∧ W.cell? ⟨b, off + 1, none⟩ = some (.int .i64 x.o) ∧ W.cell? ⟨b, off + 2, none⟩ = some (.bool x.f) ∧ W.cell? ⟨b, off + 3, none⟩ = some (.int .i64 x.p) ∧ W.cell? ⟨b, off + 4, none⟩ = some (.bool x.h) ∧ W.cell? ⟨b, off + 5, none⟩ = some (.bool (stB x))
theorem RfIn.next (W W' : World) (b off : Nat) (x : Ri) (hb : b < W.heap.size) (h : Below W.heap.size W W') (hx : RfIn W b off x) : RfIn W' b off x := by
  obtain ⟨h0, h1, h2, h3, h4, h5⟩ := hx
  exact ⟨(cellNext hb h _).trans h0, (cellNext hb h _).trans h1, (cellNext hb h _).trans h2, (cellNext hb h _).trans h3, (cellNext hb h _).trans h4, (cellNext hb h _).trans h5⟩
def Rfs : World → Value → List Ri → Prop := RowOf 6 RfIn
theorem Rfs.next {W W' : World} {v : Value} {l : List Ri} (h : Rfs W v l) (hb : Below W.heap.size W W') : Rfs W' v l := RowOf.next RfIn.next h hb
/-- of the errors of a name the first one, counted -/
def wrongN (xs : List Ri) : Int :=
  if 1 < xs.countP seB then 9 else if xs.countP dfB = 0 ∧ 0 < xs.countP stB then 8 else 0
def wrongR (xs : List Ri) : Int := if mixB xs then 10 else wrongN xs
theorem mixB_yes {xs : List Ri} (h0 : 0 < xs.length) {i : Nat} (hi : i < xs.length) (h : difB xs[0] xs[i] = true) : mixB xs = true := by
  rw [mixB_at (List.getElem?_eq_getElem h0)]
  exact List.any_eq_true.2 ⟨_, List.getElem_mem hi, h⟩
theorem mixB_no {xs : List Ri} (h : ∀ (h0 : 0 < xs.length), xs.any (difB xs[0]) = false) : mixB xs = false := by
  by_cases h0 : 0 < xs.length
  · rw [mixB_at (List.getElem?_eq_getElem h0), h h0]
  · have e : xs = [] := by cases xs <;> simp_all
    subst e
    rfl
set_option maxRecDepth 100000 in
set_option maxHeartbeats 8000000 in
theorem refWrong_any (xs : List Ri) (A : Option Addr) (n c : Nat) (w : World) (hn : xs.length = n) (h9 : n ≤ 9223372036854775807) (hS : Rfs w (.slice A n c) xs) :
    Calls Try.prog 50 #[.slice A n c] w fun e w' => e = .returned (.int .i64 (wrongR xs)) ∧ Below w.heap.size w w' := by
  have HN := Lib.hid (show xs.length ≤ n ∧ n ≤ xs.length by omega)
  have HS := Lib.hid hS
  have n1 : (n : Int) ≤ 9223372036854775807 := by omega
  obtain ⟨V, hV⟩ : ∃ V, wrongR xs = V := ⟨_, rfl⟩
  have HE := Lib.hid hV
  rw [hV]
  clear hS hn h9 hV
  go_enter Try.func50, Try.ntmps50
  go_wp2_with fail
  go_loopw [3, 4, 5, 6] (fun sv hv wv iv wr => ∃ i a b d : Nat, i ≤ n ∧ iv = .int .i64 i ∧ sv = .int .i64 a ∧ hv = .int .i64 b ∧ wv = .int .i64 d ∧ a = (xs.take i).countP seB ∧ b = (xs.take i).countP dfB ∧ d = (xs.take i).countP stB ∧ (∀ (h0 : 0 < xs.length), (xs.take i).any (difB xs[0]) = false) ∧ Below w.heap.size w wr) (fun _ _ _ iv _ => n - (intOf iv).toNat)
  case atStart => exact ⟨0, 0, 0, 0, Nat.zero_le _, rfl, rfl, rfl, rfl, rfl, rfl, rfl, fun _ => rfl, Below.refl _ _⟩
  case round =>
    obtain ⟨i, a, b, d, hi, rfl, rfl, rfl, rfl, ha, hb, hd, hx, hbw⟩ := hrel
    have ha9 : a ≤ i := by rw [ha]; exact Nat.le_trans List.countP_le_length (by simp; omega)
    have hb9 : b ≤ i := by rw [hb]; exact Nat.le_trans List.countP_le_length (by simp; omega)
    have hd9 : d ≤ i := by rw [hd]; exact Nat.le_trans List.countP_le_length (by simp; omega)
    have HT := Lib.hid hx
    have HB := Lib.hid hbw
    have HA := Lib.hid ha
    have HBC := Lib.hid hb
    have HDC := Lib.hid hd
    have a0 : (0 : Int) ≤ (a : Int) := Int.natCast_nonneg _
    have b0 : (0 : Int) ≤ (b : Int) := Int.natCast_nonneg _
    have d0 : (0 : Int) ≤ (d : Int) := Int.natCast_nonneg _
    by_cases hlt : i < n
    case neg =>
      have hdd : decide ((i : Int) < (n : Int)) = false := by simp; omega
      have HV := Lib.hid (show V = wrongN xs by
        rw [← HE.out]
        unfold wrongR
        rw [mixB_no (fun h0 => by have h := HT.out h0; rwa [List.take_of_length_le (by have := HN.out; omega)] at h)]
        rfl)
      rw [List.take_of_length_le (by have := HN.out; omega)] at ha hb hd
      unfold wrongN at HV
      rw [← ha, ← hb, ← hd] at HV
      clear ha hb hd hx hbw ha9 hb9 hd9 HT HA HBC HDC
      by_cases h1 : 1 < a
      · have t1 : decide ((1 : Int) < (a : Int)) = true := by simp; omega
        have t1' : decide (1 < a) = true := by simp; omega
        have HV2 := Lib.hid (show V = 9 by rw [HV.out, if_pos h1])
        go_wp2_with fail
        go_ret
        exact ⟨by rw [HV2.out]; first | done | rfl, HB.out⟩
      · have t1 : decide ((1 : Int) < (a : Int)) = false := by simp; omega
        have t1' : decide (1 < a) = false := by simp; omega
        by_cases h2 : b = 0
        · subst h2
          by_cases h3 : 0 < d
          · have t3 : decide ((0 : Int) < (d : Int)) = true := by simp; omega
            have t3' : decide (0 < d) = true := by simp; omega
            have HV2 := Lib.hid (show V = 8 by rw [HV.out, if_neg h1, if_pos ⟨rfl, h3⟩])
            go_wp2_with fail
            go_ret
            exact ⟨by rw [HV2.out]; first | done | rfl, HB.out⟩
          · have t3 : decide ((0 : Int) < (d : Int)) = false := by simp; omega
            have t3' : decide (0 < d) = false := by simp; omega
            have HV2 := Lib.hid (show V = 0 by rw [HV.out, if_neg h1, if_neg (fun h => h3 h.2)])
            go_wp2_with fail
            go_ret
            exact ⟨by rw [HV2.out]; first | done | rfl, HB.out⟩
        · have t2 : ((b : Int) == 0) = false := by simp; omega
          have t2' : (b == 0) = false := by simp; omega
          have HV2 := Lib.hid (show V = 0 by rw [HV.out, if_neg h1, if_neg (fun h => h2 h.1)])
          go_wp2_with fail
          go_ret
          exact ⟨by rw [HV2.out]; first | done | rfl, HB.out⟩
    case pos =>
      have hm : i < xs.length := by have := HN.out; omega
      have hm0 : 0 < xs.length := by omega
      obtain ⟨b1, off, hA, hbl, g0, g1, g2, g3, g4, g5⟩ := RowOf.at_ (HS.out.next hbw) hm
      obtain ⟨b2, off2, hA2, hbl2, k0, k1, k2, k3, k4, k5⟩ := RowOf.at_ (HS.out.next hbw) hm0
      subst hA
      obtain ⟨rfl, rfl⟩ : b1 = b2 ∧ off = off2 := by simpa using hA2
      rw [Nat.zero_mul, Nat.add_zero] at k2 k3
      have htk : xs.take (i + 1) = xs.take i ++ [xs[i]] := List.take_succ_eq_append_getElem hm
      obtain ⟨Q, hQ⟩ : ∃ Q, difB xs[0] xs[i] = Q := ⟨_, rfl⟩
      have HY := Lib.hid (fun (h : Q = true) => (show V = 10 from by rw [← HE.out]; unfold wrongR; rw [mixB_yes hm0 hm (hQ.trans h)]; rfl))
      have HNO := Lib.hid (fun (h : Q = false) => (show ∀ (h0 : 0 < xs.length), (xs.take (i + 1)).any (difB xs[0]) = false from fun h0 => by rw [htk, List.any_append, HT.out h0]; simp; exact hQ.trans h))
      have HA2 := Lib.hid (show (xs.take (i + 1)).countP seB = a + (if seB xs[i] = true then 1 else 0) by rw [htk, List.countP_append, ← ha]; simp [List.countP_cons])
      have HB2 := Lib.hid (show (xs.take (i + 1)).countP dfB = b + (if dfB xs[i] = true then 1 else 0) by rw [htk, List.countP_append, ← hb]; simp [List.countP_cons])
      have HD2 := Lib.hid (show (xs.take (i + 1)).countP stB = d + (if stB xs[i] = true then 1 else 0) by rw [htk, List.countP_append, ← hd]; simp [List.countP_cons])
      obtain ⟨⟨s0, o0, f0, p0, bb0, h0⟩, hx0⟩ : ∃ x, xs[i] = x := ⟨_, rfl⟩
      obtain ⟨⟨s1, o1, f1, p1, bb1, h1⟩, hy0⟩ : ∃ y, xs[0] = y := ⟨_, rfl⟩
      rw [hx0] at g2 g3 g4 g5 HA2 HB2 HD2
      rw [hy0] at k2 k3
      rw [hx0, hy0] at hQ
      unfold difB at hQ
      unfold seB at HA2
      unfold dfB at HB2
      unfold stB at HD2 g5
      dsimp only at g2 g3 g4 g5 k2 k3 hQ HA2 HB2 HD2
      subst hQ
      obtain ⟨q, hq⟩ : ∃ q, (bb0 == 2) = q := ⟨_, rfl⟩
      rw [hq] at g5 HA2 HD2
      have hk0 : (0 : Int) ≤ (i : Int) := Int.natCast_nonneg _
      have hk1 : (i : Int) < (n : Int) := by omega
      have hkn : (0 : Int) < (n : Int) := by omega
      have a1 : (a : Int) + 1 ≤ 9223372036854775807 := by omega
      have b11 : (b : Int) + 1 ≤ 9223372036854775807 := by omega
      have d1 : (d : Int) + 1 ≤ 9223372036854775807 := by omega
      have HLT := Lib.hid hlt
      clear hx0 hy0 hm hm0 hlt hbl hbl2 hbw ha hb hd hx ha9 hb9 hd9 g0 g1 k0 k1 k4 k5 htk hA2 hq HA HBC HDC HT
      by_cases hf : f0 = f1
      case neg =>
        have HV := Lib.hid (HY.out (by simp [hf]))
        cases f0 <;> cases f1 <;> first | exact absurd rfl hf | skip
        all_goals
          go_upto_region 7 with fail
          go_quiet (fail)
          go_wp2_with fail
          go_ret
          exact ⟨by rw [HV.out]; first | done | rfl, bthen HB.out (drewN_below' _ nq)⟩
      subst hf
      by_cases hp : p0 = p1
      case neg =>
        have HV := Lib.hid (HY.out (by simp [hp]))
        cases f0
        all_goals
          go_upto_region 7 with fail
          go_quiet (fail)
          rw [show (p0 != p1) = true by simpa using hp]
          clear hp
          go_wp2_with fail
          go_ret
          exact ⟨by rw [HV.out]; first | done | rfl, bthen HB.out (drewN_below' _ nq)⟩
      subst hp
      have HNX := Lib.hid (HNO.out (by simp))
      clear HY HNO
      cases f0 <;> cases h0 <;> cases q
      all_goals
        simp only [Bool.and_true, Bool.and_false, Bool.and_self, Bool.false_eq_true, if_true, if_false, Nat.add_zero] at HA2 HB2 HD2
        go_upto_region 7 with fail
        go_quiet (fail)
        go_wp2_with fail
        go_roundw
        case rel => exact ⟨i + 1, _, _, _, HLT.out, by go_num, by go_num, by go_num, by go_num, HA2.out.symm, HB2.out.symm, HD2.out.symm, HNX.out, bthen HB.out (drewN_below' _ nq)⟩
        case measure => have := HLT.out; simp [intOf]; omega
end Go.Proofs.Ytniolkjeblocaaa

namespace Go.Proofs.Ytniolkjeblocaaa
open Go.RowKit

theorem rf_info : (Try.prog.info? 95).map (fun i => (i.zero, i.size, i.bytes)) = some (some (.agg #[.string ⟨#[]⟩, .int .i64 0, .bool false, .int .i64 0, .bool false, .bool false]), 6, 48) := by kernel_rfl
def rfC (x : Ri) : List Value := [.string x.s, .int .i64 x.o, .bool x.f, .int .i64 x.p, .bool x.h, .bool (stB x)]
def RfYs (ys : List Value) (j : Nat) (x : Ri) : Prop := ∀ k, k < 6 → ys[j * 6 + k]? = (rfC x)[k]?
/-- a row of the reference's items, of the call's own -/
def OutR (w : World) (v : Value) (r : List Ri) (W : World) : Prop := ∃ ys, W.ownsRow w.heap.size 95 6 v r.length ys ∧ ∀ (j : Nat) (hj : j < r.length), RfYs ys j r[j]
theorem OutR.slice {w : World} {v : Value} {r : List Ri} {W : World} (h : OutR w v r W) : ∃ A c, v = .slice A r.length c := by
  obtain ⟨ys, ho, -⟩ := h
  exact ownsRow_slice ho
theorem OutR.rfs {w : World} {v : Value} {r : List Ri} {W : World} (h : OutR w v r W) : Rfs W v r := by
  obtain ⟨ys, ho, h⟩ := h
  by_cases hl : 0 < r.length
  · obtain ⟨g, cap, e, -, hlt⟩ := ho.form hl
    subst e
    refine .inr ⟨hl, g, 0, cap, rfl, hlt, fun i hi => ?_⟩
    have q : ∀ c, c < 6 → W.cell? ⟨g, 0 + i * 6 + c, none⟩ = (rfC r[i])[c]? := fun c hc => by rw [Nat.zero_add, ← h i hi c hc]; exact ho.cellAt _ (by omega)
    exact ⟨q 0 (by omega), q 1 (by omega), q 2 (by omega), q 3 (by omega), q 4 (by omega), q 5 (by omega)⟩
  · have hl0 : r = [] := by cases r <;> simp_all
    subst hl0
    rcases ho.2 with ⟨e, _⟩ | ⟨g, cap, cur, e, _⟩
    · exact .inl ⟨rfl, .inl e⟩
    · exact .inl ⟨rfl, .inr ⟨_, _, e⟩⟩
/-- append of one item -/
theorem wpList_append_item {W u : World} {ops : Array Oper} {rest : List Oper} {o : Oper} {a : Act} {Q : Exit → Act → World → Prop} (hgd : o.guard = none) (s x : Operand)
    (ho : o.op = .call { callee := .builtin .append, args := #[s, x], argTypes := #[89, 89] }) (w : World) (v : Value) (r : List Ri) (m : Ri) (H : Nat) (hs : a.eval s = v) (hx : a.eval x = .slice (some ⟨H, 0, none⟩) 1 1)
    (hH : u.heap.size = H) (hW : W = u.alloc (.cells (rfC m).toArray 95)) (hO : OutR w v r u) (hn : (r.length + 1) * 48 ≤ 140737488355328) (hb : Below w.heap.size w u)
    (h : ∀ v' w', OutR w v' (r ++ [m]) w' → Below w.heap.size w w' → wpList Try.prog ops Q rest (a.put o.dst v') w') : wpList Try.prog ops Q (o :: rest) a W := by
  have hbW : Below w.heap.size w W := by rw [hW]; exact bthen hb (balloc (Below.refl _ u) _)
  subst hH hW
  obtain ⟨ys, ho1, hys⟩ := hO
  obtain ⟨i0, hi0, hz0, hz1, hz2⟩ := info_parts rf_info
  have hl : ys.length = r.length * 6 := ho1.1
  have hnw := World.news_of_block (cs := (rfC m).toArray) (heap_alloc_new u (.cells (rfC m).toArray 95))
  refine wpList_append_own _ hgd s x 89 ho w.heap.size 95 i0 _ 6 48 Try.underlying89 hi0 hz0 hz1 hz2 rfl (by decide) v r.length ys hs (ho1.alloc _) ⟨u.heap.size, 0, none⟩ 1 1 (rfC m) hx rfl hnw (by simp [rfC, Value.oneCell']) (by unfold maxLen; omega) hn hbW.size (fun v' w' h1 h2 _ => h v' w' ⟨_, by rw [List.length_append]; exact h1, fun j hj => ?_⟩ (hbW.grown h2 hbW.size (fun q hq => (ho1.lt q hq).1)))
  intro k hk
  by_cases hjl : j < r.length
  · rw [List.getElem_append_left hjl, List.getElem?_append_left (by omega)]
    exact hys j hjl k hk
  · have hj1 : j = r.length := by simp at hj; omega
    subst hj1
    rw [List.getElem_concat_length rfl, List.getElem?_append_right (by omega), hl, Nat.add_sub_cancel_left]
set_option maxRecDepth 100000 in
set_option maxHeartbeats 4000000 in
theorem refOf_any (s : ByteArray) (xs : List Ri) (A : Option Addr) (n c : Nat) (w : World) (hn : xs.length = n) (h9 : (n + 1) * 48 ≤ 140737488355328) (hS : Rfs w (.slice A n c) xs) :
    Calls Try.prog 51 #[.slice A n c, .string s] w fun e w' => ∃ v, e = .returned v ∧ OutR w v (xs.filter fun x => x.s == s) w' ∧ Below w.heap.size w w' := by
  have HN := Lib.hid (show xs.length ≤ n ∧ n ≤ xs.length by omega)
  have HN9 := Lib.hid h9
  have HS := Lib.hid hS
  have n1 : (n : Int) ≤ 9223372036854775807 := by omega
  clear hS hn h9
  go_enter Try.func51, Try.ntmps51
  go_wp2_with fail
  go_loopw [5, 6] (fun vv iv wr => ∃ i : Nat, i ≤ n ∧ iv = .int .i64 i ∧ OutR w vv ((xs.take i).filter fun x => x.s == s) wr ∧ Below w.heap.size w wr) (fun _ iv _ => n - (intOf iv).toNat)
  case atStart => exact ⟨0, Nat.zero_le _, rfl, ⟨[], World.ownsRow_nil _ _ _ _, fun j hj => by simp at hj⟩, Below.refl _ _⟩
  case round =>
    obtain ⟨i, hi, rfl, ho, hb⟩ := hrel
    have HO := Lib.hid ho
    have HB := Lib.hid hb
    clear ho
    by_cases hlt : i < n
    case neg =>
      have hd : decide ((i : Int) < (n : Int)) = false := by simp; omega
      have HV := Lib.hid (show OutR w _ (xs.filter fun x => x.s == s) _ from by have h := HO.out; rwa [List.take_of_length_le (by have := HN.out; omega)] at h)
      go_wp2_with fail
      go_ret
      exact ⟨_, rfl, HV.out, HB.out⟩
    case pos =>
      have hm : i < xs.length := by have := HN.out; omega
      obtain ⟨b1, off, hA, hbl, g0, g1, g2, g3, g4, g5⟩ := RowOf.at_ (HS.out.next hb) hm
      subst hA
      have HTK := Lib.hid (show (xs.take (i + 1)).filter (fun x => x.s == s) = (xs.take i).filter (fun x => x.s == s) ++ (if xs[i].s == s then [xs[i]] else []) by
        rw [List.take_succ_eq_append_getElem hm, List.filter_append]
        congr 1
        rw [List.filter_cons]
        rfl)
      have HLF := Lib.hid (show ((xs.take i).filter (fun x => x.s == s)).length ≤ i from Nat.le_trans (List.length_filter_le _ _) (by simp; omega))
      obtain ⟨m0, hx⟩ : ∃ x, xs[i] = x := ⟨_, rfl⟩
      rw [hx] at g0 g1 g2 g3 g4 g5 HTK
      obtain ⟨s0, o0, f0, p0, bb0, h0⟩ := m0
      obtain ⟨q, hq⟩ : ∃ q, stB ⟨s0, o0, f0, p0, bb0, h0⟩ = q := ⟨_, rfl⟩
      rw [hq] at g5
      dsimp only at g0 g1 g2 g3 g4 HTK
      have HQC := Lib.hid (show rfC ⟨s0, o0, f0, p0, bb0, h0⟩ = [.string s0, .int .i64 o0, .bool f0, .int .i64 p0, .bool h0, .bool q] by unfold rfC; rw [hq])
      have hk0 : (0 : Int) ≤ (i : Int) := Int.natCast_nonneg _
      have hk1 : (i : Int) < (n : Int) := by omega
      have HLT := Lib.hid hlt
      clear hx hm hlt hbl hb hq
      by_cases e : s0 = s
      case neg =>
        obtain ⟨hs1, hs2⟩ := str_otherD e
        have HV := Lib.hid (show (xs.take (i + 1)).filter (fun x => x.s == s) = (xs.take i).filter (fun x => x.s == s) by rw [HTK.out, hs1]; simp)
        go_wp2_with fail
        go_roundw
        case rel => exact ⟨i + 1, HLT.out, by go_num, by rw [HV.out]; exact HO.out, HB.out⟩
        case measure => have := HLT.out; simp [intOf]; omega
      case pos =>
        subst e
        have hss : (s0 == s0) = true := (jba_beq _ _).2 rfl
        have hst : (s0.toList == s0.toList) = true := by simp
        have HV := Lib.hid (show (xs.take (i + 1)).filter (fun x => x.s == s0) = (xs.take i).filter (fun x => x.s == s0) ++ [⟨s0, o0, f0, p0, bb0, h0⟩] by rw [HTK.out, hss]; simp)
        go_wp2_with (at_builtin; go_loud (refine wpList_append_item (u := wr) rfl _ _ rfl w _ _ ⟨s0, o0, f0, p0, bb0, h0⟩ _ rfl rfl rfl (by rw [HQC.out]) HO.out (by have := HLF.out; have := HN9.out; have := HLT.out; omega) HB.out ?_; intro v' w2 ho2 hb2; have HO2 := Lib.hid ho2; have HB2 := Lib.hid hb2; clear ho2 hb2))
        go_roundw
        case rel => exact ⟨i + 1, HLT.out, by go_num, by rw [HV.out]; exact HO2.out, HB2.out⟩
        case measure => have := HLT.out; simp [intOf]; omega
end Go.Proofs.Ytniolkjeblocaaa

namespace Go.Proofs.Ytniolkjeblocaaa
open Go.RowKit

theorem any_countP (p : Ri → Bool) (xs : List Ri) : xs.any p = decide (0 < xs.countP p) := by
  induction xs with
  | nil => rfl
  | cons x xs ih =>
    rw [List.any_cons, List.countP_cons, ih]
    cases h : p x <;> simp
theorem two_count (xs : List Ri) : twoB xs = decide (1 < xs.countP seB) := by
  induction xs with
  | nil => rfl
  | cons x xs ih =>
    unfold twoB at ih ⊢
    rw [List.countP_cons, List.any_cons, List.findIdx_cons]
    cases h : seB x with
    | true => simp [any_countP]
    | false =>
      simp only [Bool.false_or, cond_false, List.drop_succ_cons, ih]
      simp
theorem mis_count (xs : List Ri) : misB xs = decide (xs.countP dfB = 0 ∧ 0 < xs.countP stB) := by
  unfold misB
  rw [any_countP, any_countP]
  by_cases h1 : 0 < xs.countP dfB
  · have : ¬ xs.countP dfB = 0 := by omega
    simp [h1, this]
  · have : xs.countP dfB = 0 := by omega
    simp [this]
/-- of one name alone both say the same error -/
theorem wrE_ref (xs : List Ri) : wrE xs 0 = wrongR xs := by
  unfold wrE wrV wrongR wrongN
  rw [two_count, mis_count]
  cases mixB xs <;> simp
end Go.Proofs.Ytniolkjeblocaaa

namespace Go.Proofs.Ytniolkjeblocaaa
open Go.RowKit Go.Shelf

def ofF (o : Int) (f : Fn) : Ri := ⟨f.s, o, true, f.p, f.b, decide (0 < f.l.length)⟩
def ofG (o : Int) (g : Gl) : Ri := ⟨g.s, o, false, 0, g.b, g.h⟩
/-- the items of all modules -/
def itemsOf (o : Int) (m : Md) : List Ri := (m.f.filter (fun f => !(f.b == 1))).map (ofF o) ++ (m.g.filter (fun g => !(g.b == 1))).map (ofG o)
theorem item_info : (Try.prog.info? 130).map (·.size) = some 6 := by kernel_rfl
set_option maxRecDepth 100000 in
theorem ofFunc_in (k : Nat) (s : ByteArray) (b p i : Int) (A : Option Addr) (n c : Nat) (w : World) :
    CallsIn Fence.wide k Try.prog 87 #[.agg #[.string s, .int .i64 b, .int .i64 p, .slice A n c], .int .i64 i] w fun e w' => e = .returned (riV ⟨s, i, true, p, b, decide (0 < n)⟩) ∧ w.grownBy w' none := by
  have n0 : (0 : Int) ≤ (n : Int) := Int.natCast_nonneg _
  refine callsIn_of_wp Try.func87 rfl trivial ?_ rfl
  simp only [Try.ntmps87, List.size_toArray, List.length_cons, List.length_nil, Nat.reduceAdd, Nat.reduceSub, Array.replicate_succ, Array.replicate_zero, List.push_toArray, List.append_toArray, List.nil_append, List.cons_append]
  gi_wp2
  have hz := heap_alloc_new (w.alloc (.cells #[.string s, .int .i64 b, .int .i64 p, .slice A n c] 57)) (.cells #[.string s, .int .i64 i, .bool true, .int .i64 p, .int .i64 b, .bool (decide (0 < n))] 130)
  rw [show (w.alloc (.cells #[.string s, .int .i64 b, .int .i64 p, .slice A n c] 57)).heap.size = w.heap.size + 1 by simp] at hz
  exact bodyPost_ret (results_cell_row Try.results87 _ _ _ _ #[.string s, .int .i64 i, .bool true, .int .i64 p, .int .i64 b, .bool (decide (0 < n))] _ _ rfl hz Try.underlying130 rfl item_info) rfl ⟨rfl, (World.grownBy_alloc w _ none).trans (World.grownBy_alloc _ _ none)⟩
set_option maxRecDepth 100000 in
theorem ofGlob_in (k : Nat) (s : ByteArray) (b i q : Int) (h : Bool) (w : World) :
    CallsIn Fence.wide k Try.prog 88 #[.agg #[.string s, .int .i64 b, .bool h, .int .u64 q], .int .i64 i] w fun e w' => e = .returned (riV ⟨s, i, false, 0, b, h⟩) ∧ w.grownBy w' none := by
  refine callsIn_of_wp Try.func88 rfl trivial ?_ rfl
  simp only [Try.ntmps88, List.size_toArray, List.length_cons, List.length_nil, Nat.reduceAdd, Nat.reduceSub, Array.replicate_succ, Array.replicate_zero, List.push_toArray, List.append_toArray, List.nil_append, List.cons_append]
  gi_wp2
  have hz := heap_alloc_new (w.alloc (.cells #[.string s, .int .i64 b, .bool h, .int .u64 q] 60)) (.cells #[.string s, .int .i64 i, .bool false, .int .i64 0, .int .i64 b, .bool h] 130)
  rw [show (w.alloc (.cells #[.string s, .int .i64 b, .bool h, .int .u64 q] 60)).heap.size = w.heap.size + 1 by simp] at hz
  exact bodyPost_ret (results_cell_row Try.results88 _ _ _ _ #[.string s, .int .i64 i, .bool false, .int .i64 0, .int .i64 b, .bool h] _ _ rfl hz Try.underlying130 rfl item_info) rfl ⟨rfl, (World.grownBy_alloc w _ none).trans (World.grownBy_alloc _ _ none)⟩
end Go.Proofs.Ytniolkjeblocaaa

namespace Go.Proofs.Ytniolkjeblocaaa
open Go.RowKit

/-- the items of the first k modules -/
def allI (ms : List Md) (k : Nat) : List Ri := ((ms.zipIdx.take k).map fun p => itemsOf (p.2 : Int) p.1).flatten
theorem allI_succ {ms : List Md} {i : Nat} (hi : i < ms.length) : allI ms (i + 1) = allI ms i ++ itemsOf (i : Int) ms[i] := by
  unfold allI
  rw [List.take_succ_eq_append_getElem (by simpa using hi), List.map_append, List.flatten_append]
  simp
theorem allI_le (ms : List Md) (k : Nat) : (allI ms k).length ≤ (allI ms ms.length).length := by
  unfold allI
  conv => rhs; rw [List.take_of_length_le (by simp), ← List.take_append_drop k ms.zipIdx, List.map_append, List.flatten_append, List.length_append]
  omega
def selFn (o : Int) (l : List Fn) : List Ri := (l.filter (fun f => !(f.b == 1))).map (ofF o)
def selGl (o : Int) (l : List Gl) : List Ri := (l.filter (fun g => !(g.b == 1))).map (ofG o)
theorem selFn_succ {o : Int} {l : List Fn} {k : Nat} (hk : k < l.length) : selFn o (l.take (k + 1)) = selFn o (l.take k) ++ (if l[k].b == 1 then [] else [ofF o l[k]]) := by
  unfold selFn
  rw [List.take_succ_eq_append_getElem hk, List.filter_append, List.map_append, List.filter_cons]
  cases l[k].b == 1 <;> rfl
theorem selGl_succ {o : Int} {l : List Gl} {k : Nat} (hk : k < l.length) : selGl o (l.take (k + 1)) = selGl o (l.take k) ++ (if l[k].b == 1 then [] else [ofG o l[k]]) := by
  unfold selGl
  rw [List.take_succ_eq_append_getElem hk, List.filter_append, List.map_append, List.filter_cons]
  cases l[k].b == 1 <;> rfl
theorem selFn_le (o : Int) (l : List Fn) (k : Nat) : (selFn o (l.take k)).length ≤ (selFn o l).length := by
  conv => rhs; rw [← List.take_append_drop k l]
  unfold selFn
  rw [List.filter_append, List.map_append, List.length_append]
  omega
theorem selGl_le (o : Int) (l : List Gl) (k : Nat) : (selGl o (l.take k)).length ≤ (selGl o l).length := by
  conv => rhs; rw [← List.take_append_drop k l]
  unfold selGl
  rw [List.filter_append, List.map_append, List.length_append]
  omega
end Go.Proofs.Ytniolkjeblocaaa

namespace Go.Proofs.Ytniolkjeblocaaa
open Go.RowKit

theorem OutR.below {w : World} {v : Value} {r : List Ri} {W W' : World} (h : OutR w v r W) (hb : Below W.heap.size W W') : OutR w v r W' := by
  obtain ⟨ys, ho, h⟩ := h
  exact ⟨ys, ownsRow_atv ho (fun g hg => hb.block g (ho.lt g hg).2), h⟩
set_option maxRecDepth 100000 in
set_option maxHeartbeats 8000000 in
theorem refItems_any (ms : List Md) (A : Option Addr) (n c : Nat) (w : World) (hn : ms.length = n) (h9 : n ≤ 9223372036854775807) (hok : ∀ m ∈ ms, MdOk m) (hT : ((allI ms ms.length).length + 1) * 48 ≤ 140737488355328) (hS : Mods w (.slice A n c) ms) :
    Calls Try.prog 49 #[.slice A n c] w fun e w' => ∃ v, e = .returned v ∧ OutR w v (allI ms ms.length) w' ∧ Below w.heap.size w w' := by
  have HN := Lib.hid (show ms.length ≤ n ∧ n ≤ ms.length by omega)
  have HTT := Lib.hid hT
  have HOK := Lib.hid hok
  have HS := Lib.hid hS
  have n1 : (n : Int) ≤ 9223372036854775807 := by omega
  clear hS hn h9 hT hok
  go_enter Try.func49, Try.ntmps49
  go_wp2_with fail
  go_loopw [3, 4] (fun vv iv wr => ∃ i : Nat, i ≤ n ∧ iv = .int .i64 i ∧ OutR w vv (allI ms i) wr ∧ Below w.heap.size w wr) (fun _ iv _ => n - (intOf iv).toNat)
  case atStart => exact ⟨0, Nat.zero_le _, rfl, ⟨[], World.ownsRow_nil _ _ _ _, fun j hj => by simp [allI] at hj⟩, Below.refl _ _⟩
  case round =>
    obtain ⟨i, hi, rfl, ho, hb⟩ := hrel
    have HO := Lib.hid ho
    have HB := Lib.hid hb
    clear ho
    by_cases hlt : i < n
    case neg =>
      have hd : decide ((i : Int) < (n : Int)) = false := by simp; omega
      have HV := Lib.hid (show OutR w _ (allI ms ms.length) _ from by have h := HO.out; rwa [show i = ms.length by have := HN.out; omega] at h)
      go_wp2_with fail
      go_ret
      exact ⟨_, rfl, HV.out, HB.out⟩
    case pos =>
      have hm : i < ms.length := by have := HN.out; omega
      obtain ⟨b1, off, hA, hml, F, cf, G, cg, c0, c1, hmd⟩ := RowOf.at_ HS.out hm
      subst hA
      have HSI := Lib.hid (allI_succ hm)
      have hmo := HOK.out _ (List.getElem_mem hm)
      have hle := allI_le ms (i + 1)
      rw [allI_succ hm] at hle
      obtain ⟨m, hx⟩ : ∃ x, ms[i] = x := ⟨_, rfl⟩
      rw [hx] at c0 c1 hmd HSI hmo hle
      have HTOT := Lib.hid (show (allI ms i ++ (selFn (i : Int) m.f ++ selGl (i : Int) m.g)).length ≤ (allI ms ms.length).length from hle)
      obtain ⟨nf, hnf⟩ : ∃ q, m.f.length = q := ⟨_, rfl⟩
      obtain ⟨ng, hng⟩ : ∃ q, m.g.length = q := ⟨_, rfl⟩
      rw [hnf] at c0 hmd
      rw [hng] at c1 hmd
      have HLnf := Lib.hid (show m.f.length ≤ nf ∧ nf ≤ m.f.length by omega)
      have HLng := Lib.hid (show m.g.length ≤ ng ∧ ng ≤ m.g.length by omega)
      have HF := Lib.hid hmd.1
      have HG := Lib.hid hmd.2
      have HC0 := Lib.hid c0
      have HC1 := Lib.hid c1
      have nf9 : (nf : Int) ≤ 9223372036854775807 := by have := hmo.2.2.1; omega
      have ng9 : (ng : Int) ≤ 9223372036854775807 := by have := hmo.2.2.2; omega
      have hk0 : (0 : Int) ≤ (i : Int) := Int.natCast_nonneg _
      have hk1 : (i : Int) < (n : Int) := by omega
      have HLT := Lib.hid hlt
      clear hx hm hlt hb hmd hmo hle hnf hng c0 c1
      go_wp2_with fail
      go_loopw [3, 5] (fun vv kv wi => ∃ k : Nat, k ≤ nf ∧ kv = .int .i64 k ∧ OutR w vv (allI ms i ++ selFn (i : Int) (m.f.take k)) wi ∧ Below w.heap.size w wi) (fun _ kv _ => nf - (intOf kv).toNat)
      case atStart => exact ⟨0, Nat.zero_le _, rfl, by rw [List.take_zero, show selFn (i : Int) [] = [] from rfl, List.append_nil]; exact HO.out, HB.out⟩
      case round =>
        obtain ⟨k, hk, rfl, ho, hb⟩ := hrel
        have HOI := Lib.hid ho
        have HBI := Lib.hid hb
        clear ho
        have cm0 := (cellNext hml hb _).trans HC0.out
        have cm1 := (cellNext hml hb _).trans HC1.out
        by_cases hlk : k < nf
        case neg =>
          have hd2 : decide ((k : Int) < (nf : Int)) = false := by simp; omega
          have HO1 := Lib.hid (show OutR w _ (allI ms i ++ selFn (i : Int) m.f) _ from by have h := HOI.out; rwa [List.take_of_length_le (by have := HLnf.out; omega)] at h)
          have HB1 := Lib.hid hb
          clear HOI HBI hb
          go_wp2_with fail
          go_loopw [3, 7] (fun vv kv wi => ∃ k : Nat, k ≤ ng ∧ kv = .int .i64 k ∧ OutR w vv (allI ms i ++ selFn (i : Int) m.f ++ selGl (i : Int) (m.g.take k)) wi ∧ Below w.heap.size w wi) (fun _ kv _ => ng - (intOf kv).toNat)
          case atStart => exact ⟨0, Nat.zero_le _, rfl, by rw [List.take_zero, show selGl (i : Int) [] = [] from rfl, List.append_nil]; exact HO1.out, HB1.out⟩
          case round =>
            obtain ⟨k, hk, rfl, ho, hb⟩ := hrel
            have HOI := Lib.hid ho
            have HBI := Lib.hid hb
            clear ho
            have cm0 := (cellNext hml hb _).trans HC0.out
            have cm1 := (cellNext hml hb _).trans HC1.out
            by_cases hlk : k < ng
            case neg =>
              have hd2 : decide ((k : Int) < (ng : Int)) = false := by simp; omega
              have HO2x := Lib.hid (show OutR w _ (allI ms i ++ selFn (i : Int) m.f ++ selGl (i : Int) m.g) _ from by have h := HOI.out; rwa [List.take_of_length_le (by have := HLng.out; omega)] at h)
              have HB1 := Lib.hid hb
              clear HOI HBI hb
              go_wp2_with fail
              go_roundw
              case rel => exact ⟨i + 1, HLT.out, by go_num, by rw [HSI.out]; unfold itemsOf; rw [← List.append_assoc]; exact HO2x.out, HB1.out⟩
              case measure => have := HLT.out; simp [intOf]; omega
            have hkm : k < m.g.length := by have := HLng.out; omega
            obtain ⟨b5, off5, hA5, hbl5, e0⟩ := RowOf.at_ (HG.out.next hb) hkm
            subst hA5
            obtain ⟨g0, g1, g2, g3⟩ := e0
            have HSU := Lib.hid (selGl_succ (o := (i : Int)) hkm)
            have HLE := Lib.hid (show (allI ms i ++ selFn (i : Int) m.f ++ selGl (i : Int) (m.g.take k)).length + (if (m.g[k]).b == 1 then 0 else 1) ≤ (allI ms ms.length).length from by
              have h1 := HTOT.out
              have h2 := selGl_le (i : Int) m.g (k + 1)
              rw [selGl_succ hkm] at h2
              have h3 := selFn_le (i : Int) m.f m.f.length
              simp only [List.length_append] at h1 h2 h3 ⊢
              cases hq : (m.g[k]).b == 1 <;> simp only [hq, if_true, if_false, Bool.false_eq_true, List.length_nil, List.length_cons] at h2 ⊢ <;> omega)
            obtain ⟨⟨s0, b0, h0, q0⟩, hx⟩ : ∃ x, m.g[k] = x := ⟨_, rfl⟩
            rw [hx] at g0 g1 g2 g3 HSU HLE
            dsimp only at g0 g1 g2 g3 HSU HLE
            skip
            have HRC := Lib.hid (show rfC (ofG (i : Int) ⟨s0, b0, h0, q0⟩) = [.string s0, .int .i64 i, .bool false, .int .i64 0, .bool h0, .bool (b0 == 2)] by rfl)
            have j0 : (0 : Int) ≤ (k : Int) := Int.natCast_nonneg _
            have j1 : (k : Int) < (ng : Int) := by omega
            have HLK := Lib.hid hlk
            have HBA := Lib.hid (bthen hb (balloc (Below.refl _ wr) (.cells #[.string s0, .int .i64 b0, .bool h0, .int .u64 q0] 60)))
            clear hx hkm hbl5 hb hlk
            cases hq : (b0 == 1) with
            | true =>
              rw [hq, if_pos rfl, List.append_nil] at HSU
              go_wp2_with fail
              go_roundw
              case rel => exact ⟨k + 1, HLK.out, by go_num, by rw [HSU.out]; exact HOI.out.below (balloc (Below.refl _ wr) _), HBA.out⟩
              case measure => have := HLK.out; simp [intOf]; omega
            | false =>
              rw [hq, if_neg (by simp)] at HSU HLE
              go_wp2_with (at_builtin; go_loud (refine wpList_append_item (u := wr.alloc (.cells #[.string s0, .int .i64 b0, .bool h0, .int .u64 q0] 60)) rfl _ _ rfl w _ _ (ofG (i : Int) ⟨s0, b0, h0, q0⟩) _ rfl rfl (by simp) (by rw [HRC.out]) (HOI.out.below (balloc (Below.refl _ wr) _)) (by have := HLE.out; have := HTT.out; omega) HBA.out ?_; intro v' w2 ho2 hb2; have HO2 := Lib.hid ho2; have HB2 := Lib.hid hb2; clear ho2 hb2))
              go_roundw
              case rel => exact ⟨k + 1, HLK.out, by go_num, by rw [HSU.out, ← List.append_assoc]; exact HO2.out, HB2.out⟩
              case measure => have := HLK.out; simp [intOf]; omega
        have hkm : k < m.f.length := by have := HLnf.out; omega
        obtain ⟨b5, off5, hA5, hbl5, e0⟩ := RowOf.at_ (HF.out.next hb) hkm
        subst hA5
        obtain ⟨g0, g1, g2, A4, z4, g3, -⟩ := e0
        have HSU := Lib.hid (selFn_succ (o := (i : Int)) hkm)
        have HLE := Lib.hid (show (allI ms i ++ selFn (i : Int) (m.f.take k)).length + (if (m.f[k]).b == 1 then 0 else 1) ≤ (allI ms ms.length).length from by
          have h1 := HTOT.out
          have h2 := selFn_le (i : Int) m.f (k + 1)
          rw [selFn_succ hkm] at h2
          have h3 := selFn_le (i : Int) m.f m.f.length
          simp only [List.length_append] at h1 h2 h3 ⊢
          cases hq : (m.f[k]).b == 1 <;> simp only [hq, if_true, if_false, Bool.false_eq_true, List.length_nil, List.length_cons] at h2 ⊢ <;> omega)
        obtain ⟨⟨s0, b0, p0, l0⟩, hx⟩ : ∃ x, m.f[k] = x := ⟨_, rfl⟩
        rw [hx] at g0 g1 g2 g3 HSU HLE
        dsimp only at g0 g1 g2 g3 HSU HLE
        obtain ⟨L4, hL4⟩ : ∃ L4, l0.length = L4 := ⟨_, rfl⟩
        have HL4 := Lib.hid hL4
        rw [hL4] at g3
        clear hL4
        have l40 : (0 : Int) ≤ (L4 : Int) := Int.natCast_nonneg _
        have HRC := Lib.hid (show rfC (ofF (i : Int) ⟨s0, b0, p0, l0⟩) = [.string s0, .int .i64 i, .bool true, .int .i64 p0, .bool (decide (0 < L4)), .bool (b0 == 2)] by unfold rfC ofF stB; dsimp only; rw [HL4.out])
        have j0 : (0 : Int) ≤ (k : Int) := Int.natCast_nonneg _
        have j1 : (k : Int) < (nf : Int) := by omega
        have HLK := Lib.hid hlk
        have HBA := Lib.hid (bthen hb (balloc (Below.refl _ wr) (.cells #[.string s0, .int .i64 b0, .int .i64 p0, .slice A4 L4 z4] 57)))
        clear hx hkm hbl5 hb hlk
        cases hq : (b0 == 1) with
        | true =>
          rw [hq, if_pos rfl, List.append_nil] at HSU
          go_wp2_with fail
          go_roundw
          case rel => exact ⟨k + 1, HLK.out, by go_num, by rw [HSU.out]; exact HOI.out.below (balloc (Below.refl _ wr) _), HBA.out⟩
          case measure => have := HLK.out; simp [intOf]; omega
        | false =>
          rw [hq, if_neg (by simp)] at HSU HLE
          go_wp2_with (at_builtin; go_loud (refine wpList_append_item (u := wr.alloc (.cells #[.string s0, .int .i64 b0, .int .i64 p0, .slice A4 L4 z4] 57)) rfl _ _ rfl w _ _ (ofF (i : Int) ⟨s0, b0, p0, l0⟩) _ rfl rfl (by simp) (by rw [HRC.out]) (HOI.out.below (balloc (Below.refl _ wr) _)) (by have := HLE.out; have := HTT.out; omega) HBA.out ?_; intro v' w2 ho2 hb2; have HO2 := Lib.hid ho2; have HB2 := Lib.hid hb2; clear ho2 hb2))
          go_roundw
          case rel => exact ⟨k + 1, HLK.out, by go_num, by rw [HSU.out, ← List.append_assoc]; exact HO2.out, HB2.out⟩
          case measure => have := HLK.out; simp [intOf]; omega
end Go.Proofs.Ytniolkjeblocaaa
