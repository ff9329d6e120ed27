/- Package ir: is each global, and each function and global of a module, right by itself? -/
import Derived.Test.YtkalgiaapkjplaaK3
namespace Go.Proofs.Ytkalgiaapkjplaa
open Go.RowKit

set_option maxRecDepth 100000 in
set_option maxHeartbeats 4000000 in
theorem rightGlob_any (s : ByteArray) (b : Int) (h : Bool) (i : Int) (w : World) (hs : s.size < 9223372036854775808) :
    Calls Try.prog 84 #[.agg #[.string s, .int .i64 b, .bool h, .int .u64 i]] w fun e w' => e = .returned (.bool (globB ⟨s, b, h, i⟩)) ∧ Below w.heap.size w w' := by
  have HN := Lib.hid (fun W : World => mayName_any s W hs)
  rw [show (decide (1 ≤ (s.size : Int)) && decide ((s.size : Int) ≤ 16)) = nameB s from rfl] at HN
  have HE := Lib.hid (show globB ⟨s, b, h, i⟩ = (nameB s && (decide (1 ≤ b) && decide (b ≤ 3)) && (h || (i == 0 && !(b == 1)))) from rfl)
  go_enter Try.func84, Try.ntmps84
  go_wp2_with fail
  refine (HN.out _).mono ?_
  rintro r w1 ⟨rfl, rfl⟩
  cases hn : nameB s with
  | false =>
    have HV := Lib.hid (show globB ⟨s, b, h, i⟩ = false by rw [HE.out, hn]; rfl)
    clear HE hn
    go_wp2_with fail
    go_ret
    exact ⟨by rw [HV.out]; rfl, balloc (Below.refl _ w) _⟩
  | true =>
    rw [hn] at HE
    clear hn
    go_wp2_with fail
    refine (mayBind_any b _).mono ?_
    rintro r w1 ⟨rfl, rfl⟩
    cases hb : (decide (1 ≤ b) && decide (b ≤ 3)) with
    | false =>
      have HV := Lib.hid (show globB ⟨s, b, h, i⟩ = false by rw [HE.out, hb]; rfl)
      clear HE hb
      go_wp2_with fail
      go_ret
      exact ⟨by rw [HV.out]; rfl, balloc (Below.refl _ w) _⟩
    | true =>
      rw [hb] at HE
      clear hb
      cases h with
      | true =>
        have HV := Lib.hid (show globB ⟨s, b, true, i⟩ = true by rw [HE.out]; rfl)
        clear HE
        go_wp2_with fail
        go_ret
        exact ⟨by rw [HV.out]; rfl, balloc (Below.refl _ w) _⟩
      | false =>
        cases hi : (i == 0) with
        | false =>
          have HV := Lib.hid (show globB ⟨s, b, false, i⟩ = false by rw [HE.out, hi]; rfl)
          clear HE
          go_wp2_with fail
          go_ret
          exact ⟨by rw [HV.out]; rfl, balloc (Below.refl _ w) _⟩
        | true =>
          have HV := Lib.hid (show globB ⟨s, b, false, i⟩ = !(b == 1) by rw [HE.out, hi]; rfl)
          clear HE
          go_wp2_with fail
          go_ret
          exact ⟨by rw [HV.out]; rfl, balloc (Below.refl _ w) _⟩
/-- a module in memory -/
def MdAt (W : World) (vf vg : Value) (m : Md) : Prop := Funcs W vf m.f ∧ Globs W vg m.g
def MdOk (m : Md) : Prop := (∀ f ∈ m.f, FnOk f) ∧ (∀ g ∈ m.g, GlOk g) ∧ m.f.length ≤ 9223372036854775807 ∧ m.g.length ≤ 9223372036854775807
theorem MdAt.next {W W' : World} {vf vg : Value} {m : Md} (h : MdAt W vf vg m) (hb : Below W.heap.size W W') : MdAt W' vf vg m := ⟨h.1.next hb, h.2.next hb⟩
set_option maxRecDepth 100000 in
set_option maxHeartbeats 4000000 in
theorem rightAlone_any (m : Md) (F G : Option Addr) (nf cf ng cg : Nat) (w : World) (hok : MdOk m) (hnf : m.f.length = nf) (hng : m.g.length = ng) (hS : MdAt w (.slice F nf cf) (.slice G ng cg) m) :
    Calls Try.prog 53 #[.agg #[.slice F nf cf, .slice G ng cg]] w fun e w' => e = .returned (.bool (aloneB m)) ∧ Below w.heap.size w w' := by
  have HS := Lib.hid hS
  have HOK := Lib.hid hok
  have HNF := Lib.hid (show m.f.length ≤ nf ∧ nf ≤ m.f.length by omega)
  have HNG := Lib.hid (show m.g.length ≤ ng ∧ ng ≤ m.g.length by omega)
  have f9 : (nf : Int) ≤ 9223372036854775807 := by have := hok.2.2.1; omega
  have g9 : (ng : Int) ≤ 9223372036854775807 := by have := hok.2.2.2; omega
  clear hS hok hnf hng
  go_enter Try.func53, Try.ntmps53
  go_wp2_with fail
  have HIN := Lib.hid (heap_alloc_new w (.cells #[.slice F nf cf, .slice G ng cg] 33))
  have HBW := Lib.hid (balloc (Below.refl _ w) (.cells #[.slice F nf cf, .slice G ng cg] 33))
  generalize w.alloc (.cells #[.slice F nf cf, .slice G ng cg] 33) = W0 at *
  go_loopw [10] (fun iv wr => ∃ i : Nat, i ≤ nf ∧ iv = .int .i64 i ∧ (m.f.take i).all funcB = true ∧ wr.heap[w.heap.size]? = some (.cells #[.slice F nf cf, .slice G ng cg] 33 (0, 0)) ∧ Below w.heap.size w wr) (fun iv _ => nf - (intOf iv).toNat)
  case atStart => exact ⟨0, Nat.zero_le _, rfl, rfl, HIN.out, HBW.out⟩
  case round =>
    obtain ⟨i, hi, rfl, hs, hin, hb⟩ := hrel
    have HT := Lib.hid hs
    have HI := Lib.hid hin
    have HB := Lib.hid hb
    clear hs hin hb HIN HBW
    by_cases hlt : i < nf
    · have hm : i < m.f.length := by have := HNF.out; omega
      obtain ⟨b, off, hA, hbl, e0⟩ := RowOf.at_ HS.out.1 hm
      subst hA
      obtain ⟨c0, c1, c2, A, cc, c3, hbk⟩ := FnAt.next _ _ _ _ _ hbl HB.out e0
      have HFN := Lib.hid (fun (W : World) (hu : Below wr.heap.size wr W) => func_any m.f[i] A cc W (HOK.out.1 _ (List.getElem_mem hm)) (hbk.next hu))
      have HNX := Lib.hid (show (m.f.take (i + 1)).all funcB = funcB m.f[i] by
        rw [List.take_succ_eq_append_getElem hm, List.all_append, HT.out]
        simp)
      have HNO := Lib.hid (show funcB m.f[i] = false → aloneB m = false from fun h => by
        unfold aloneB
        rw [show m.f.all funcB = false from by rw [List.all_eq_false]; exact ⟨m.f[i], List.getElem_mem hm, by simp [h]⟩]
        rfl)
      obtain ⟨X, hX⟩ : ∃ x, funcB m.f[i] = x := ⟨_, rfl⟩
      obtain ⟨x0, h0⟩ : ∃ x, m.f[i].s = x := ⟨_, rfl⟩
      obtain ⟨x1, h1⟩ : ∃ x, m.f[i].b = x := ⟨_, rfl⟩
      obtain ⟨x2, h2⟩ : ∃ x, m.f[i].p = x := ⟨_, rfl⟩
      obtain ⟨x3, h3⟩ : ∃ x, m.f[i].l.length = x := ⟨_, rfl⟩
      rw [hX, h0, h1, h2, h3] at HFN
      rw [hX] at HNX HNO
      rw [h0] at c0
      rw [h1] at c1
      rw [h2] at c2
      rw [h3] at c3
      have hk0 : (0 : Int) ≤ (i : Int) := Int.natCast_nonneg _
      have hk1 : (i : Int) < (nf : Int) := by omega
      have HLT := Lib.hid hlt
      clear hX h0 h1 h2 h3 hm hlt hbk e0
      go_wp2_with fail
      have hbx := balloc (Below.refl _ wr) (.cells #[.string x0, .int .i64 x1, .int .i64 x2, .slice A x3 cc] 24)
      refine (HFN.out _ hbx).mono ?_
      rintro r w2 ⟨rfl, hb2⟩
      have HB2 := Lib.hid (bthen HB.out (bthen hbx hb2))
      have HI2 := Lib.hid (((bthen hbx hb2).block _ (Array.getElem?_eq_some_iff.1 HI.out).1).trans HI.out)
      clear hbx hb2 c0 c1 c2 c3
      cases X with
      | false =>
        have HV := Lib.hid (HNO.out rfl)
        go_wp2_with fail
        go_ret
        exact ⟨by rw [HV.out]; rfl, HB2.out⟩
      | true =>
        go_wp2_with fail
        go_roundw
        case rel => exact ⟨i + 1, HLT.out, by go_num, HNX.out, HI2.out, HB2.out⟩
        case measure => have := HLT.out; simp [intOf]; omega
    · have hd : decide ((i : Int) < (nf : Int)) = false := by simp; omega
      have HF := Lib.hid (show m.f.all funcB = true by
        have h := HT.out
        rwa [List.take_of_length_le (by have := HNF.out; omega)] at h)
      have c1 := Lib.cell_of_heap HI.out 1
      simp only [List.getElem?_toArray, List.getElem?_cons_zero, List.getElem?_cons_succ] at c1
      go_wp2_with fail
      clear c1
      go_loopw [21] (fun iv wr => ∃ i : Nat, i ≤ ng ∧ iv = .int .i64 i ∧ (m.g.take i).all globB = true ∧ Below w.heap.size w wr) (fun iv _ => ng - (intOf iv).toNat)
      case atStart => exact ⟨0, Nat.zero_le _, rfl, rfl, HB.out⟩
      case round =>
        obtain ⟨j, hj, rfl, hs, hb⟩ := hrel
        have HT2 := Lib.hid hs
        have HB2 := Lib.hid hb
        clear hs hb
        by_cases hlt2 : j < ng
        · have hm : j < m.g.length := by have := HNG.out; omega
          obtain ⟨b, off, hA, hbl, e0⟩ := RowOf.at_ HS.out.2 hm
          subst hA
          obtain ⟨c0, c1, c2, c3⟩ := GlAt.next _ _ _ _ _ hbl HB2.out e0
          have HGL := Lib.hid (fun (W : World) => rightGlob_any m.g[j].s m.g[j].b m.g[j].h m.g[j].i W (HOK.out.2.1 _ (List.getElem_mem hm)))
          rw [show (⟨m.g[j].s, m.g[j].b, m.g[j].h, m.g[j].i⟩ : Gl) = m.g[j] from rfl] at HGL
          have HNX := Lib.hid (show (m.g.take (j + 1)).all globB = globB m.g[j] by
            rw [List.take_succ_eq_append_getElem hm, List.all_append, HT2.out]
            simp)
          have HNO := Lib.hid (show globB m.g[j] = false → aloneB m = false from fun h => by
            unfold aloneB
            rw [show m.g.all globB = false from by rw [List.all_eq_false]; exact ⟨m.g[j], List.getElem_mem hm, by simp [h]⟩]
            simp)
          obtain ⟨X, hX⟩ : ∃ x, globB m.g[j] = x := ⟨_, rfl⟩
          obtain ⟨x0, h0⟩ : ∃ x, m.g[j].s = x := ⟨_, rfl⟩
          obtain ⟨x1, h1⟩ : ∃ x, m.g[j].b = x := ⟨_, rfl⟩
          obtain ⟨x2, h2⟩ : ∃ x, m.g[j].h = x := ⟨_, rfl⟩
          obtain ⟨x3, h3⟩ : ∃ x, m.g[j].i = x := ⟨_, rfl⟩
          rw [hX, h0, h1, h2, h3] at HGL
          rw [hX] at HNX HNO
          rw [h0] at c0
          rw [h1] at c1
          rw [h2] at c2
          rw [h3] at c3
          have hk0 : (0 : Int) ≤ (j : Int) := Int.natCast_nonneg _
          have hk1 : (j : Int) < (ng : Int) := by omega
          have HLT := Lib.hid hlt2
          clear hX h0 h1 h2 h3 hm hlt2 e0
          go_wp2_with fail
          have hbx := balloc (Below.refl _ wr) (.cells #[.string x0, .int .i64 x1, .bool x2, .int .u64 x3] 92)
          refine (HGL.out _).mono ?_
          rintro r w2 ⟨rfl, hb2⟩
          have HB3 := Lib.hid (bthen HB2.out (bthen hbx hb2))
          clear hbx hb2 c0 c1 c2 c3
          cases X with
          | false =>
            have HV := Lib.hid (HNO.out rfl)
            go_wp2_with fail
            go_ret
            exact ⟨by rw [HV.out]; rfl, HB3.out⟩
          | true =>
            go_wp2_with fail
            go_roundw
            case rel => exact ⟨j + 1, HLT.out, by go_num, HNX.out, HB3.out⟩
            case measure => have := HLT.out; simp [intOf]; omega
        · have hd : decide ((j : Int) < (ng : Int)) = false := by simp; omega
          have HG := Lib.hid (show m.g.all globB = true by
            have h := HT2.out
            rwa [List.take_of_length_le (by have := HNG.out; omega)] at h)
          have HV := Lib.hid (show aloneB m = true by unfold aloneB; rw [HF.out, HG.out]; rfl)
          go_wp2_with fail
          go_ret
          exact ⟨by rw [HV.out]; rfl, HB2.out⟩
end Go.Proofs.Ytkalgiaapkjplaa
