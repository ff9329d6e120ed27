/- Package pick: files in memory; may files be linked? -/
import Derived.Test.YtcfniagmnkngfaaTA
import Derived.Test.YtcfniagmnkngfaaBL
namespace Go.Proofs.Ytcfniagmnkngfaa
open Go.RowKit

/-- a module that lies in two cells -/
def MdIn (W : World) (b off : Nat) (m : Md) : Prop :=
  ∃ F cf G cg, W.cell? ⟨b, off, none⟩ = some (.slice F m.f.length cf) ∧ W.cell? ⟨b, off + 1, none⟩ = some (.slice G m.g.length cg) ∧ MdAt W (.slice F m.f.length cf) (.slice G m.g.length cg) m
theorem MdIn.next (W W' : World) (b off : Nat) (x : Md) (hb : b < W.heap.size) (h : Below W.heap.size W W') (hx : MdIn W b off x) : MdIn W' b off x := by
  obtain ⟨F, cf, G, cg, h0, h1, h2⟩ := hx
  exact ⟨F, cf, G, cg, (cellNext hb h _).trans h0, (cellNext hb h _).trans h1, h2.next h⟩
def Mods : World → Value → List Md → Prop := RowOf 2 MdIn
theorem Mods.next {W W' : World} {v : Value} {l : List Md} (h : Mods W v l) (hb : Below W.heap.size W W') : Mods W' v l := RowOf.next MdIn.next h hb
/-- a file -/
structure Fl where
  a : Bool
  m : List Md
def FlIn (W : World) (b off : Nat) (x : Fl) : Prop := W.cell? ⟨b, off, none⟩ = some (.bool x.a) ∧ ∃ A cap, W.cell? ⟨b, off + 1, none⟩ = some (.slice A x.m.length cap) ∧ Mods W (.slice A x.m.length cap) x.m
theorem FlIn.next (W W' : World) (b off : Nat) (x : Fl) (hb : b < W.heap.size) (h : Below W.heap.size W W') (hx : FlIn W b off x) : FlIn W' b off x := by
  obtain ⟨h0, A, c, h1, h2⟩ := hx
  exact ⟨(cellNext hb h _).trans h0, A, c, (cellNext hb h _).trans h1, h2.next h⟩
def Files : World → Value → List Fl → Prop := RowOf 2 FlIn
theorem Files.next {W W' : World} {v : Value} {l : List Fl} (h : Files W v l) (hb : Below W.heap.size W W') : Files W' v l := RowOf.next FlIn.next h hb
def FlOk (x : Fl) : Prop := x.m.length ≤ 1152921504606846975 ∧ ∀ m ∈ x.m, MdOk m
def sumM (l : List Fl) : Nat := (l.map (·.m.length)).sum
def oneB (l : List Fl) : Bool := l.all fun f => f.a || f.m.length == 1
def modsL (l : List Fl) : List Md := (l.map (·.m)).flatten
def firstE : List Md → Int
  | [] => 0
  | m :: l => if checkE m = 0 then firstE l else checkE m
def pickE (l : List Fl) : Int := if 8 < l.length ∨ 16 < sumM l then 4 else if oneB l = false then 1 else firstE (modsL l)
theorem firstE_app (a b : List Md) : firstE (a ++ b) = if firstE a = 0 then firstE b else firstE a := by
  induction a with
  | nil => rfl
  | cons m a ih =>
    rw [List.cons_append, firstE, firstE, ih]
    by_cases h : checkE m = 0
    · rw [if_pos h, if_pos h]
    · rw [if_neg h, if_neg h, if_neg h]
theorem firstE_take {l : List Md} {i : Nat} (hi : i < l.length) (h : firstE (l.take i) = 0) : firstE (l.take (i + 1)) = checkE l[i] := by
  rw [List.take_succ_eq_append_getElem hi, firstE_app, if_pos h, firstE]
  split
  · rename_i h; rw [h]; rfl
  · rfl
theorem firstE_pre {a b : List Md} (h : a <+: b) (hn : firstE a ≠ 0) : firstE b = firstE a := by
  obtain ⟨c, rfl⟩ := h
  rw [firstE_app, if_neg hn]
theorem sumM_take {l : List Fl} {i : Nat} (hi : i < l.length) : sumM (l.take (i + 1)) = sumM (l.take i) + l[i].m.length := by
  unfold sumM
  rw [List.take_succ_eq_append_getElem hi, List.map_append, List.sum_append]
  simp
theorem sumM_le {l : List Fl} (h : ∀ f ∈ l, FlOk f) : sumM l ≤ l.length * 1152921504606846975 := by
  induction l with
  | nil => simp [sumM]
  | cons x l ih =>
    have h1 := ih (fun f hf => h f (by simp [hf]))
    have h2 := (h x (by simp)).1
    unfold sumM at h1 ⊢
    rw [List.map_cons, List.sum_cons, List.length_cons, Nat.add_mul]
    omega
def modsT (l : List Fl) (k : Nat) : List Md := modsL (l.take k)
theorem modsT_succ {l : List Fl} {k : Nat} (h : k < l.length) : modsT l (k + 1) = modsT l k ++ l[k].m := by
  unfold modsT modsL
  rw [List.take_succ_eq_append_getElem h, List.map_append, List.flatten_append]
  simp
theorem modsT_all {l : List Fl} {k : Nat} (h : l.length ≤ k) : modsT l k = modsL l := by
  unfold modsT
  rw [List.take_of_length_le h]
theorem pall_take {α : Type} {p : α → Bool} {l : List α} {i : Nat} (hi : i < l.length) (h : (l.take i).all p = true) : (l.take (i + 1)).all p = p l[i] := by
  rw [List.take_succ_eq_append_getElem hi, List.all_append, h]
  simp
theorem pall_no {α : Type} {p : α → Bool} {l : List α} {i : Nat} (hi : i < l.length) (h : p l[i] = false) : l.all p = false := by
  rw [List.all_eq_false]
  exact ⟨l[i], List.getElem_mem hi, by simp [h]⟩
theorem modsT_pre (l : List Fl) (k : Nat) : modsT l k <+: modsL l := by
  unfold modsT modsL
  refine ⟨((l.drop k).map (·.m)).flatten, ?_⟩
  rw [← List.flatten_append, ← List.map_append, List.take_append_drop]
set_option maxRecDepth 100000 in
set_option maxHeartbeats 4000000 in
theorem modules_any (l : List Fl) (A : Option Addr) (n c : Nat) (w : World) (hn : l.length = n) (h8 : n ≤ 8) (hok : ∀ f ∈ l, FlOk f) (hS : Files w (.slice A n c) l) :
    Calls Try.prog 63 #[.slice A n c] w fun e w' => e = .returned (.int .i64 (sumM l)) ∧ Below w.heap.size w w' := by
  have HS := Lib.hid hS
  have HN := Lib.hid (show l.length ≤ n ∧ n ≤ l.length by omega)
  have HOK := Lib.hid hok
  have n1 : (n : Int) ≤ 9223372036854775807 := by omega
  have HSL := Lib.hid (fun (k : Nat) => (show sumM (l.take k) ≤ 9223372036854775800 from by
    have h1 := sumM_le (l := l.take k) (fun f hf => hok f (List.mem_of_mem_take hf))
    rw [List.length_take] at h1
    omega))
  obtain ⟨V, hV⟩ : ∃ V, sumM l = V := ⟨_, rfl⟩
  have HE := Lib.hid hV
  rw [hV]
  clear hS hok hV
  have HNQ := Lib.hid hn
  clear hn
  go_enter Try.func63, Try.ntmps63
  go_wp2_with fail
  go_loopw [3, 8] (fun nv iv wr => ∃ i : Nat, i ≤ n ∧ iv = .int .i64 i ∧ nv = .int .i64 (sumM (l.take i)) ∧ Below w.heap.size w wr) (fun _ iv _ => n - (intOf iv).toNat)
  case atStart => exact ⟨0, Nat.zero_le _, rfl, rfl, Below.refl _ _⟩
  case round =>
    obtain ⟨i, hi, rfl, rfl, hb⟩ := hrel
    have HB := Lib.hid hb
    clear hb
    by_cases hlt : i < n
    · have hm : i < l.length := by have := HN.out; omega
      obtain ⟨b1, off, hA, hbl, e0⟩ := RowOf.at_ HS.out hm
      subst hA
      obtain ⟨g0, A3, z3, g1, hmods⟩ := FlIn.next _ _ _ _ _ hbl HB.out e0
      have HSU := Lib.hid (sumM_take hm)
      have hs1 := HSL.out (i + 1)
      rw [HSU.out] at hs1
      obtain ⟨x0, h0⟩ : ∃ z, l[i].a = z := ⟨_, rfl⟩
      obtain ⟨x1, h1⟩ : ∃ z, l[i].m.length = z := ⟨_, rfl⟩
      rw [h0] at g0
      rw [h1] at g1 HSU hs1
      obtain ⟨S, hSS⟩ : ∃ S, sumM (l.take i) = S := ⟨_, rfl⟩
      rw [hSS] at HSU hs1 ⊢
      have bw : IntKind.i64.wrap ((S : Int) + (x1 : Int)) = ((S + x1 : Nat) : Int) := by rw [IntKind.wrap_i64]; omega
      have hk0 : (0 : Int) ≤ (i : Int) := Int.natCast_nonneg _
      have hk1 : (i : Int) < (n : Int) := by omega
      have HLT := Lib.hid hlt
      have HB2 := Lib.hid (bthen HB.out (balloc (Below.refl _ wr) (.cells #[.bool x0, .slice A3 x1 z3] 55)))
      clear h0 h1 hSS hm hlt hbl e0 hmods hs1
      go_wp2_with fail
      go_roundw
      case rel => exact ⟨i + 1, HLT.out, by go_num, by rw [HSU.out]; first | rfl | rw [Int.natCast_add], HB2.out⟩
      case measure => have := HLT.out; simp [intOf]; omega
    · have hd : decide ((i : Int) < (n : Int)) = false := by simp; omega
      have HV := Lib.hid (show sumM (l.take i) = V by rw [List.take_of_length_le (by have := HN.out; omega)]; exact HE.out)
      go_wp2_with fail
      go_ret
      exact ⟨by rw [HV.out]; rfl, HB.out⟩
set_option maxRecDepth 100000 in
set_option maxHeartbeats 4000000 in
theorem objectsOfOne_any (l : List Fl) (A : Option Addr) (n c : Nat) (w : World) (hn : l.length = n) (h9 : n ≤ 9223372036854775807) (hS : Files w (.slice A n c) l) :
    Calls Try.prog 64 #[.slice A n c] w fun e w' => e = .returned (.bool (oneB l)) ∧ Below w.heap.size w w' := by
  have HS := Lib.hid hS
  have HN := Lib.hid (show l.length ≤ n ∧ n ≤ l.length by omega)
  have n1 : (n : Int) ≤ 9223372036854775807 := by omega
  obtain ⟨V, hV⟩ : ∃ V, oneB l = V := ⟨_, rfl⟩
  have HE := Lib.hid hV
  rw [hV]
  clear hS hV hn h9
  go_enter Try.func64, Try.ntmps64
  go_wp2_with fail
  go_loopw [7] (fun iv wr => ∃ i : Nat, i ≤ n ∧ iv = .int .i64 i ∧ oneB (l.take i) = true ∧ Below w.heap.size w wr) (fun iv _ => n - (intOf iv).toNat)
  case atStart => exact ⟨0, Nat.zero_le _, rfl, rfl, Below.refl _ _⟩
  case round =>
    obtain ⟨i, hi, rfl, hs, hb⟩ := hrel
    have HT := Lib.hid hs
    have HB := Lib.hid hb
    clear hb hs
    by_cases hlt : i < n
    · have hm : i < l.length := by have := HN.out; omega
      obtain ⟨b1, off, hA, hbl, e0⟩ := RowOf.at_ HS.out hm
      subst hA
      obtain ⟨g0, A3, z3, g1, hmods⟩ := FlIn.next _ _ _ _ _ hbl HB.out e0
      have HNX := Lib.hid (show oneB (l.take (i + 1)) = (l[i].a || l[i].m.length == 1) from pall_take hm HT.out)
      have HNO := Lib.hid (show (l[i].a || l[i].m.length == 1) = false → V = false from fun h => by rw [← HE.out]; exact pall_no (p := fun f : Fl => f.a || f.m.length == 1) hm h)
      obtain ⟨x0, h0⟩ : ∃ z, l[i].a = z := ⟨_, rfl⟩
      obtain ⟨x1, h1⟩ : ∃ z, l[i].m.length = z := ⟨_, rfl⟩
      rw [h0] at g0 HNX HNO
      rw [h1] at g1 HNX HNO
      have hk0 : (0 : Int) ≤ (i : Int) := Int.natCast_nonneg _
      have hk1 : (i : Int) < (n : Int) := by omega
      have HLT := Lib.hid hlt
      have HB2 := Lib.hid (bthen HB.out (balloc (Below.refl _ wr) (.cells #[.bool x0, .slice A3 x1 z3] 55)))
      clear h0 h1 hm hlt hbl e0 hmods
      cases x0 with
      | true =>
        have HV := Lib.hid (show oneB (l.take (i + 1)) = true by rw [HNX.out]; rfl)
        go_wp2_with fail
        go_roundw
        case rel => exact ⟨i + 1, HLT.out, by go_num, HV.out, HB2.out⟩
        case measure => have := HLT.out; simp [intOf]; omega
      | false =>
        by_cases hx : x1 = 1
        · subst hx
          have HV := Lib.hid (show oneB (l.take (i + 1)) = true by rw [HNX.out]; rfl)
          go_wp2_with fail
          go_roundw
          case rel => exact ⟨i + 1, HLT.out, by go_num, HV.out, HB2.out⟩
          case measure => have := HLT.out; simp [intOf]; omega
        · have n2 : (x1 == 1) = false := by simpa using hx
          have n2' : ((x1 : Int) == 1) = false := by simp; omega
          have HV := Lib.hid (HNO.out (by rw [n2]; rfl))
          go_wp2_with fail
          go_ret
          exact ⟨by rw [HV.out]; rfl, HB2.out⟩
    · have hd : decide ((i : Int) < (n : Int)) = false := by simp; omega
      have HV := Lib.hid (show true = V by rw [← HE.out, ← HT.out, List.take_of_length_le (by have := HN.out; omega)])
      go_wp2_with fail
      go_ret
      exact ⟨by rw [← HV.out]; rfl, HB.out⟩
set_option maxRecDepth 100000 in
set_option maxHeartbeats 8000000 in
theorem firstError_any (l : List Fl) (A : Option Addr) (n c : Nat) (w : World) (hn : l.length = n) (h9 : n ≤ 9223372036854775807) (hok : ∀ f ∈ l, FlOk f) (hS : Files w (.slice A n c) l) :
    Calls Try.prog 65 #[.slice A n c] w fun e w' => e = .returned (.int .i64 (firstE (modsL l))) ∧ Below w.heap.size w w' := by
  have HS := Lib.hid hS
  have HN := Lib.hid (show l.length ≤ n ∧ n ≤ l.length by omega)
  have HOK := Lib.hid hok
  have n1 : (n : Int) ≤ 9223372036854775807 := by omega
  obtain ⟨V, hV⟩ : ∃ V, firstE (modsL l) = V := ⟨_, rfl⟩
  have HE := Lib.hid hV
  rw [hV]
  clear hS hV hn h9 hok
  go_enter Try.func65, Try.ntmps65
  go_wp2_with fail
  go_loopw [10] (fun iv wr => ∃ i : Nat, i ≤ n ∧ iv = .int .i64 i ∧ firstE (modsT l i) = 0 ∧ Below w.heap.size w wr) (fun iv _ => n - (intOf iv).toNat)
  case atStart => exact ⟨0, Nat.zero_le _, rfl, rfl, Below.refl _ _⟩
  case round =>
    obtain ⟨i, hi, rfl, hs, hb⟩ := hrel
    have HT := Lib.hid hs
    have HB := Lib.hid hb
    clear hb hs
    by_cases hlt : i < n
    · have hm : i < l.length := by have := HN.out; omega
      obtain ⟨b1, off, hA, hbl, e0⟩ := RowOf.at_ HS.out hm
      subst hA
      obtain ⟨g0, A3, z3, g1, hmods⟩ := FlIn.next _ _ _ _ _ hbl HB.out e0
      have HSU := Lib.hid (modsT_succ hm)
      have hfo := HOK.out _ (List.getElem_mem hm)
      obtain ⟨⟨x0, ms⟩, hx⟩ : ∃ z, l[i] = z := ⟨_, rfl⟩
      rw [hx] at g0 g1 hmods HSU hfo
      simp only at g0 g1 hmods HSU
      have HFO := Lib.hid hfo.2
      have h60 := hfo.1
      simp only at h60
      obtain ⟨x1, h1⟩ : ∃ z, ms.length = z := ⟨_, rfl⟩
      rw [h1] at g1 hmods h60
      have HM := Lib.hid hmods
      have HML := Lib.hid (show ms.length ≤ x1 ∧ x1 ≤ ms.length by omega)
      have HPRE := Lib.hid (fun (k : Nat) => (show modsT l i ++ ms.take k <+: modsL l from List.IsPrefix.trans (by rw [HSU.out]; exact (List.prefix_append_right_inj _).2 (List.take_prefix _ _)) (modsT_pre l (i + 1))))
      have x19 : (x1 : Int) ≤ 9223372036854775807 := by omega
      have hk0 : (0 : Int) ≤ (i : Int) := Int.natCast_nonneg _
      have hk1 : (i : Int) < (n : Int) := by omega
      have HLT := Lib.hid hlt
      have HBX0 := Lib.hid (balloc (Below.refl _ wr) (.cells #[.bool x0, .slice A3 x1 z3] 55))
      have HB2 := Lib.hid (bthen HB.out HBX0.out)
      clear h1 hm hlt hbl e0 hmods hfo hx h60
      go_wp2_with fail
      clear g0 g1
      go_loopw [17] (fun kv wi => ∃ k : Nat, k ≤ x1 ∧ kv = .int .i64 k ∧ firstE (modsT l i ++ ms.take k) = 0 ∧ Below wr.heap.size wr wi) (fun kv _ => x1 - (intOf kv).toNat)
      case atStart => exact ⟨0, Nat.zero_le _, rfl, by rw [List.take_zero, List.append_nil]; exact HT.out, HBX0.out⟩
      case round =>
        obtain ⟨k, hk, rfl, hs, hb⟩ := hrel
        have HT2 := Lib.hid hs
        have HB3 := Lib.hid hb
        clear hs
        by_cases hlk : k < x1
        · have hkm : k < ms.length := by have := HML.out; omega
          obtain ⟨b2, off2, hA2, hbl2, e2⟩ := RowOf.at_ (HM.out.next hb) hkm
          subst hA2
          obtain ⟨F, cf, G, cg, p0, p1, hmd⟩ := e2
          have HC := Lib.hid (fun (U : World) (hU : Below wr.heap.size wr U) => check_any ms[k] F G _ cf _ cg U (HFO.out _ (List.getElem_mem hkm)) rfl rfl (hmd.next hU))
          have HNX := Lib.hid (show firstE (modsT l i ++ ms.take (k + 1)) = checkE ms[k] by
            rw [List.take_succ_eq_append_getElem hkm, ← List.append_assoc, firstE_app, if_pos HT2.out, firstE]
            split
            · rename_i h; rw [h]; rfl
            · rfl)
          have HP1 := Lib.hid (HPRE.out (k + 1))
          obtain ⟨q, hq⟩ : ∃ q, checkE ms[k] = q := ⟨_, rfl⟩
          obtain ⟨nf, hnf⟩ : ∃ q, ms[k].f.length = q := ⟨_, rfl⟩
          obtain ⟨ng, hng⟩ : ∃ q, ms[k].g.length = q := ⟨_, rfl⟩
          rw [hq, hnf, hng] at HC
          rw [hq] at HNX
          rw [hnf] at p0
          rw [hng] at p1
          have HQ0 := Lib.hid (show q ≠ 0 → V = q from fun h => by rw [← HE.out, firstE_pre HP1.out (by rw [HNX.out]; exact h), HNX.out])
          have q0 : (0 : Int) ≤ (k : Int) := Int.natCast_nonneg _
          have q1 : (k : Int) < (x1 : Int) := by omega
          have HLK := Lib.hid hlk
          have HBX := Lib.hid (fun U : World => balloc (Below.refl _ U) (.cells #[.slice F nf cf, .slice G ng cg] 25))
          clear hq hnf hng hmd hkm hlk hb hbl2
          go_wp2_with fail
          refine (HC.out _ (HBX.out _)).mono ?_
          rintro r w3 ⟨rfl, hb3⟩
          have HB4 := Lib.hid (bthen HB3.out (bthen (HBX.out _) hb3))
          clear hb3 p0 p1
          by_cases hz : q = 0
          · subst hz
            go_wp2_with fail
            go_roundw
            case rel => exact ⟨k + 1, HLK.out, by go_num, HNX.out, HB4.out⟩
            case measure => have := HLK.out; simp [intOf]; omega
          · have n4 : (q == 0) = false := by simpa using hz
            have HV := Lib.hid (HQ0.out hz)
            have HB5 := Lib.hid (bthen HB.out HB4.out)
            go_wp2_with fail
            go_ret
            exact ⟨by rw [HV.out]; rfl, HB5.out⟩
        · have hd : decide ((k : Int) < (x1 : Int)) = false := by simp; omega
          have HV := Lib.hid (show firstE (modsT l (i + 1)) = 0 by
            have h := HT2.out
            rwa [List.take_of_length_le (by have := HML.out; omega), ← HSU.out] at h)
          have HB5 := Lib.hid (bthen HB.out HB3.out)
          go_wp2_with fail
          go_roundw
          case rel => exact ⟨i + 1, HLT.out, by go_num, HV.out, HB5.out⟩
          case measure => have := HLT.out; simp [intOf]; omega
    · have hd : decide ((i : Int) < (n : Int)) = false := by simp; omega
      have HV := Lib.hid (show V = 0 by rw [← HE.out, ← modsT_all (k := i) (by have := HN.out; omega)]; exact HT.out)
      go_wp2_with fail
      go_ret
      exact ⟨by rw [HV.out]; rfl, HB.out⟩
set_option maxRecDepth 100000 in
set_option maxHeartbeats 4000000 in
theorem pickCheck_any (l : List Fl) (A : Option Addr) (n c : Nat) (w : World) (hn : l.length = n) (h9 : n ≤ 9223372036854775807) (hok : ∀ f ∈ l, FlOk f) (hS : Files w (.slice A n c) l) :
    Calls Try.prog 32 #[.slice A n c] w fun e w' => e = .returned (.int .i64 (pickE l)) ∧ Below w.heap.size w w' := by
  have H1 := Lib.hid (fun (h8 : n ≤ 8) (W : World) (hb : Below w.heap.size w W) => modules_any l A n c W hn h8 hok (hS.next hb))
  have H2 := Lib.hid (fun (W : World) (hb : Below w.heap.size w W) => objectsOfOne_any l A n c W hn h9 (hS.next hb))
  have H3 := Lib.hid (fun (W : World) (hb : Below w.heap.size w W) => firstError_any l A n c W hn h9 hok (hS.next hb))
  obtain ⟨V, hV⟩ : ∃ V, pickE l = V := ⟨_, rfl⟩
  have HE := Lib.hid (show V = if 8 < n ∨ 16 < sumM l then 4 else if oneB l = false then 1 else firstE (modsL l) by rw [← hV, ← hn]; rfl)
  rw [hV]
  generalize sumM l = S at H1 HE
  generalize oneB l = O at H2 HE
  generalize firstE (modsL l) = E at H3 HE
  clear hS hok hn h9 hV
  go_enter Try.func32, Try.ntmps32
  by_cases h8 : 8 < n
  · have t : decide ((8 : Int) < (n : Int)) = true := decide_eq_true (by omega)
    have t' : decide (8 < n) = true := decide_eq_true h8
    have HV := Lib.hid (show V = 4 by rw [HE.out, if_pos (.inl h8)])
    go_wp2_with fail
    go_ret
    exact ⟨by rw [HV.out]; rfl, Below.refl _ _⟩
  have t : decide ((8 : Int) < (n : Int)) = false := decide_eq_false (by omega)
  have t' : decide (8 < n) = false := decide_eq_false h8
  have HM := Lib.hid (H1.out (by omega) w (Below.refl _ _))
  go_wp2_with fail
  refine HM.out.mono ?_
  rintro r w1 ⟨rfl, hb1⟩
  have HB1 := Lib.hid hb1
  clear hb1
  by_cases h16 : 16 < S
  · have u : decide ((16 : Int) < (S : Int)) = true := decide_eq_true (by omega)
    have u' : decide (16 < S) = true := decide_eq_true h16
    have HV := Lib.hid (show V = 4 by rw [HE.out, if_pos (.inr h16)])
    go_wp2_with fail
    go_ret
    exact ⟨by rw [HV.out]; rfl, HB1.out⟩
  have u : decide ((16 : Int) < (S : Int)) = false := decide_eq_false (by omega)
  have u' : decide (16 < S) = false := decide_eq_false h16
  have HE2 := Lib.hid (show V = if O = false then 1 else E by rw [HE.out, if_neg (by omega)])
  go_wp2_with fail
  refine (H2.out w1 HB1.out).mono ?_
  rintro r w2 ⟨rfl, hb2⟩
  have HB2 := Lib.hid (bthen HB1.out hb2)
  clear hb2
  cases O with
  | false =>
    have HV := Lib.hid (show V = 1 by rw [HE2.out]; rfl)
    go_wp2_with fail
    go_ret
    exact ⟨by rw [HV.out]; rfl, HB2.out⟩
  | true =>
    have HV := Lib.hid (show V = E by rw [HE2.out]; rfl)
    go_wp2_with fail
    refine (H3.out w2 HB2.out).mono ?_
    rintro r w3 ⟨rfl, hb3⟩
    have HB3 := Lib.hid (bthen HB2.out hb3)
    clear hb3
    go_wp2_with fail
    go_ret
    exact ⟨by rw [HV.out]; rfl, HB3.out⟩
end Go.Proofs.Ytcfniagmnkngfaa
