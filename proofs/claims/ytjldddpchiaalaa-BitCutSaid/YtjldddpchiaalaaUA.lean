/- Package bit: a reader: numbers and texts taken. -/
import Derived.Test.YtjldddpchiaalaaU2
namespace Go.Proofs.Ytjldddpchiaalaa
open Go.RowKit
namespace Q

theorem strB_size (l : List UInt8) : (strB l).size = l.length := by
  show l.toArray.size = l.length
  simp
theorem strB_data (l : List UInt8) : (strB l).data.toList = l := by simp [strB]
theorem strB_take (l : List UInt8) (n : Nat) : (strB l).extract 0 n = strB (l.take n) := by
  apply ByteArray.ext
  apply Array.toList_inj.1
  simp [strB, ByteArray.data_extract]
theorem strB_drop (l : List UInt8) (n : Nat) : (strB l).extract n l.length = strB (l.drop n) := by
  apply ByteArray.ext
  apply Array.toList_inj.1
  simp [strB, ByteArray.data_extract]
  exact List.take_of_length_le (by simp)
theorem setc_grown (W : World) (a : Addr) (u : Value) : W.grownBy (W.setCell a u) (some a.block) := ⟨rfl, rfl, rfl, by simp, fun q _ hn => Below.heap_setCell _ _ _ _ (fun e => hn (by rw [e]))⟩
theorem tn_len : ∀ (n : Nat) (l : List UInt8) (v : Nat), (tn n l v).2.1.length ≤ l.length
  | 0, l, v => by simp [tn]
  | n + 1, [], v => by simp [tn]
  | n + 1, c :: l, v => by
    rw [tn]
    split
    · exact Nat.le_trans (tn_len n l _) (by simp)
    · split
      · simp
      · simp
/-- a reader that lies in memory; .. behind a step -/
def Rd (W : World) (rb : Nat) (r : St) : Prop := W.heap[rb]? = some (.cells #[.string (strB r.1), .int .i64 r.2] 54 (0, 0)) ∧ r.1.length ≤ 281474976710656
def RdTo (W : World) (rb : Nat) (r : St) (w' : World) : Prop := Rd w' rb r ∧ W.grownBy w' (some rb)
theorem RdTo.refl {W : World} {rb : Nat} {r : St} (h : Rd W rb r) : RdTo W rb r W := ⟨h, World.grownBy.refl _ _⟩
theorem RdTo.then_ {W w1 w2 : World} {rb : Nat} {r r2 : St} (h : RdTo W rb r w1) (k : RdTo w1 rb r2 w2) : RdTo W rb r2 w2 := ⟨k.1, h.2.trans k.2⟩
theorem Rd.c0 {W : World} {rb : Nat} {r : St} (h : Rd W rb r) : W.cell? ⟨rb, 0, none⟩ = some (.string (strB r.1)) := by rw [Lib.cell_of_heap h.1]; rfl
theorem Rd.c1 {W : World} {rb : Nat} {r : St} (h : Rd W rb r) : W.cell? ⟨rb, 1, none⟩ = some (.int .i64 r.2) := by rw [Lib.cell_of_heap h.1]; rfl
theorem Rd.f {W : World} {rb : Nat} {r : St} (h : Rd W rb r) (j : Nat) : W.frozen? ⟨rb, j, none⟩ = false := Lib.frozen_of_heap h.1 j
theorem Rd.lt {W : World} {rb : Nat} {r : St} (h : Rd W rb r) : rb < W.heap.size := (Array.getElem?_eq_some_iff.1 h.1).1
theorem Rd.below {W w' : World} {rb : Nat} {r : St} (h : Rd W rb r) (hb : Below W.heap.size W w') : RdTo W rb r w' :=
  ⟨⟨(hb.block rb h.lt).trans h.1, h.2⟩, hb.os, hb.tape, hb.output, hb.size, fun i hi _ => hb.block i hi⟩
theorem Rd.set1 {W : World} {rb : Nat} {r : St} (h : Rd W rb r) (e : Int) : RdTo W rb (r.1, e) (W.setCell ⟨rb, 1, none⟩ (.int .i64 e)) :=
  ⟨⟨by rw [Joins.block_setCell h.1]; rfl, h.2⟩, setc_grown _ _ _⟩
theorem Rd.set0 {W : World} {rb : Nat} {r : St} (h : Rd W rb r) (l : List UInt8) (hl : l.length ≤ r.1.length) : RdTo W rb (l, r.2) (W.setCell ⟨rb, 0, none⟩ (.string (strB l))) :=
  ⟨⟨by rw [Joins.block_setCell h.1]; rfl, Nat.le_trans hl h.2⟩, setc_grown _ _ _⟩
set_option maxRecDepth 100000 in
theorem refuse_any {rb : Nat} {r : St} {W : World} (e : Int) (h : Rd W rb r) : Calls Try.prog 20 #[.pointer (some ⟨rb, 0, none⟩), .int .i64 e] W fun x w' => x = .returned (.tuple #[]) ∧ RdTo W rb (refuseR e r) w' := by
  have c1 := h.c1
  have f1 := h.f 1
  by_cases h0 : r.2 = 0
  · have HR := Lib.hid (show RdTo W rb (refuseR e r) (W.setCell ⟨rb, 1, none⟩ (.int .i64 e)) by unfold refuseR; rw [if_pos h0]; exact h.set1 e)
    rw [h0] at c1
    clear h h0
    go_enter Try.func20, Try.ntmps20
    go_wp2_with fail
    go_end0
    exact ⟨rfl, HR.out⟩
  · have HR := Lib.hid (show RdTo W rb (refuseR e r) W by unfold refuseR; rw [if_neg h0]; exact RdTo.refl h)
    have e1 : (r.2 == 0) = false := by simpa using h0
    clear h h0
    go_enter Try.func20, Try.ntmps20
    go_wp2_with fail
    go_end0
    exact ⟨rfl, HR.out⟩
set_option maxRecDepth 100000 in
set_option maxHeartbeats 2000000 in
theorem wide_any {rb : Nat} {r : St} {W : World} (h : Rd W rb r) : Calls Try.prog 64 #[.pointer (some ⟨rb, 0, none⟩)] W fun x w' => x = .returned (.int .u64 (wideR r).1) ∧ RdTo W rb (wideR r).2 w' := by
  have c0 := h.c0
  have c1 := h.c1
  by_cases h0 : r.2 = 0
  · have HT := Lib.hid (takeNum_any (strB r.1) W (by have := h.2; rw [strB_size]; omega))
    unfold tkV tkR tkE at HT
    rw [strB_data] at HT
    have HL := Lib.hid (tn_len 10 r.1 0)
    have HE := Lib.hid (show wideR r = ((tn 10 r.1 0).1, (tn 10 r.1 0).2.1, (tn 10 r.1 0).2.2) by unfold wideR; rw [if_pos h0])
    rw [HE.out]
    obtain ⟨⟨v, l, e⟩, ht⟩ : ∃ t, tn 10 r.1 0 = t := ⟨_, rfl⟩
    rw [ht] at HT HL ⊢
    dsimp only at HT HL ⊢
    rw [h0] at c1
    have H := Lib.hid h
    clear h h0 ht HE
    go_enter Try.func64, Try.ntmps64
    go_wp2_with fail
    refine HT.out.mono ?_
    rintro x w1 ⟨rfl, hb⟩
    have h1 := H.out.below hb
    have h2 := h1.1.set0 l HL.out
    have h3 := h2.1.set1 e
    have g0 := h1.1.c0
    have g1 := h1.1.c1
    have f0 := h1.1.f 0
    have f1 := h1.1.f 1
    have HR := Lib.hid ((h1.then_ h2).then_ h3)
    clear h1 h2 h3 hb
    change w1.cell? ⟨rb, 0, none⟩ = _ at g0
    go_wp2_with fail
    go_ret
    exact ⟨rfl, HR.out⟩
  · have HR := Lib.hid (show wideR r = (0, r) by unfold wideR; rw [if_neg h0])
    have e1 : (r.2 == 0) = false := by simpa using h0
    rw [HR.out]
    have H := Lib.hid h
    clear h h0
    go_enter Try.func64, Try.ntmps64
    go_wp2_with fail
    go_ret
    exact ⟨rfl, RdTo.refl H.out⟩
set_option maxRecDepth 100000 in
set_option maxHeartbeats 2000000 in
theorem between_any {rb : Nat} {r : St} {W : World} (lo hi : Nat) (e : Int) (he : e ≠ 0) (h : Rd W rb r) :
    Calls Try.prog 63 #[.pointer (some ⟨rb, 0, none⟩), .int .u64 lo, .int .u64 hi, .int .i64 e] W fun x w' => x = .returned (.int .i64 (betweenR lo hi e r).1) ∧ RdTo W rb (betweenR lo hi e r).2 w' := by
  have HW := Lib.hid (wide_any h)
  have H4 := Lib.hid (fun (q : St) (U : World) (hU : Rd U rb q) => refuse_any 4 hU)
  have HEE := Lib.hid (fun (q : St) (U : World) (hU : Rd U rb q) => refuse_any e hU)
  unfold betweenR
  obtain ⟨⟨v, q⟩, hq⟩ : ∃ t, wideR r = t := ⟨_, rfl⟩
  rw [hq] at HW ⊢
  dsimp only at HW
  clear h hq
  by_cases h1 : 4294967295 < v
  · have hz := refuse_ok (e := 4) (r := q) (by decide)
    have HB := Lib.hid (show betF (v, q) (betW lo hi e (v, q)) = (0, refuseR 4 q) by unfold betW betF; simp only; rw [if_pos h1, if_neg hz])
    rw [HB.out]
    have d1 : decide ((v : Int) > 4294967295) = true := by simp; omega
    have d2 : decide ((4294967295 : Int) < (v : Int)) = true := by simp; omega
    have e1 : ((refuseR 4 q).2 == 0) = false := by simpa using hz
    clear h1 hz HB
    go_enter Try.func63, Try.ntmps63
    go_wp2_with fail
    refine HW.out.mono ?_
    rintro x w1 ⟨rfl, k1⟩
    have K1 := Lib.hid k1
    clear k1
    go_wp2_with fail
    refine (H4.out q w1 K1.out.1).mono ?_
    rintro x w2 ⟨rfl, k2⟩
    have c1 := k2.1.c1
    have K2 := Lib.hid (K1.out.then_ k2)
    clear k2
    go_wp2_with fail
    go_ret
    exact ⟨rfl, K2.out⟩
  · have d2 : decide ((4294967295 : Int) < (v : Int)) = false := by simp; omega
    have h1' : (v : Int) ≤ 4294967295 := by omega
    by_cases h2 : v < lo ∨ hi < v
    · have hz := refuse_ok (e := e) (r := q) he
      have HB := Lib.hid (show betF (v, q) (betW lo hi e (v, q)) = (0, refuseR e q) by unfold betW betF; simp only; rw [if_neg h1, if_pos h2, if_neg hz])
      rw [HB.out]
      have e1 : ((refuseR e q).2 == 0) = false := by simpa using hz
      by_cases h3 : v < lo
      · have d3 : decide (v < lo) = true := by simp; omega
        clear h1 hz HB h2 h3
        go_enter Try.func63, Try.ntmps63
        go_wp2_with fail
        refine HW.out.mono ?_
        rintro x w1 ⟨rfl, k1⟩
        have K1 := Lib.hid k1
        clear k1
        go_wp2_with fail
        refine (HEE.out q w1 K1.out.1).mono ?_
        rintro x w2 ⟨rfl, k2⟩
        have c1 := k2.1.c1
        have K2 := Lib.hid (K1.out.then_ k2)
        clear k2
        go_wp2_with fail
        go_ret
        exact ⟨rfl, K2.out⟩
      · have d3 : decide (v < lo) = false := by simp; omega
        have d4 : decide (hi < v) = true := by simp; omega
        clear h1 hz HB h2 h3
        go_enter Try.func63, Try.ntmps63
        go_wp2_with fail
        refine HW.out.mono ?_
        rintro x w1 ⟨rfl, k1⟩
        have K1 := Lib.hid k1
        clear k1
        go_wp2_with fail
        refine (HEE.out q w1 K1.out.1).mono ?_
        rintro x w2 ⟨rfl, k2⟩
        have c1 := k2.1.c1
        have K2 := Lib.hid (K1.out.then_ k2)
        clear k2
        go_wp2_with fail
        go_ret
        exact ⟨rfl, K2.out⟩
    · have d3 : decide (v < lo) = false := by simp; omega
      have d4 : decide (hi < v) = false := by simp; omega
      have wv : IntKind.i64.wrap (v : Int) = (v : Int) := IntWalk.i64_in _ (by omega)
      by_cases h3 : q.2 = 0
      · have HB := Lib.hid (show betF (v, q) (betW lo hi e (v, q)) = (v, q) by unfold betW betF; simp only; rw [if_neg h1, if_neg h2, if_pos h3])
        rw [HB.out]
        have e1 : (q.2 == 0) = true := by simpa using h3
        clear h1 HB h2 h3
        go_enter Try.func63, Try.ntmps63
        go_wp2_with fail
        refine HW.out.mono ?_
        rintro x w1 ⟨rfl, k1⟩
        have K1 := Lib.hid k1
        have c1 := k1.1.c1
        clear k1
        go_wp2_with fail
        go_ret
        exact ⟨rfl, K1.out⟩
      · have HB := Lib.hid (show betF (v, q) (betW lo hi e (v, q)) = (0, q) by unfold betW betF; simp only; rw [if_neg h1, if_neg h2, if_neg h3])
        rw [HB.out]
        have e1 : (q.2 == 0) = false := by simpa using h3
        clear h1 HB h2 h3
        go_enter Try.func63, Try.ntmps63
        go_wp2_with fail
        refine HW.out.mono ?_
        rintro x w1 ⟨rfl, k1⟩
        have K1 := Lib.hid k1
        have c1 := k1.1.c1
        clear k1
        go_wp2_with fail
        go_ret
        exact ⟨rfl, K1.out⟩
set_option maxRecDepth 100000 in
theorem number_any {rb : Nat} {r : St} {W : World} (h : Rd W rb r) : Calls Try.prog 60 #[.pointer (some ⟨rb, 0, none⟩)] W fun x w' => x = .returned (.int .i64 (intR r).1) ∧ RdTo W rb (intR r).2 w' := by
  have HB := Lib.hid (between_any 0 4294967295 4 (by decide) h)
  clear h
  go_enter Try.func60, Try.ntmps60
  go_wp2_with fail
  refine HB.out.mono ?_
  rintro x w1 ⟨rfl, k1⟩
  have K1 := Lib.hid k1
  clear k1 HB
  go_wp2_with fail
  go_ret
  exact ⟨rfl, K1.out⟩
set_option maxRecDepth 100000 in
theorem count_any {rb : Nat} {r : St} {W : World} (most : Nat) (h : Rd W rb r) : Calls Try.prog 58 #[.pointer (some ⟨rb, 0, none⟩), .int .u64 most] W fun x w' => x = .returned (.int .i64 (betweenR 0 most 4 r).1) ∧ RdTo W rb (betweenR 0 most 4 r).2 w' := by
  have HB := Lib.hid (between_any 0 most 4 (by decide) h)
  clear h
  go_enter Try.func58, Try.ntmps58
  go_wp2_with fail
  refine HB.out.mono ?_
  rintro x w1 ⟨rfl, k1⟩
  have K1 := Lib.hid k1
  clear k1 HB
  go_wp2_with fail
  go_ret
  exact ⟨rfl, K1.out⟩
set_option maxRecDepth 100000 in
set_option maxHeartbeats 2000000 in
theorem text_any {rb : Nat} {r : St} {W : World} (h : Rd W rb r) : Calls Try.prog 59 #[.pointer (some ⟨rb, 0, none⟩)] W fun x w' => x = .returned (.string (strB (textR r).1)) ∧ RdTo W rb (textR r).2 w' := by
  have HC := Lib.hid (count_any 16 h)
  unfold textR
  obtain ⟨⟨n, ⟨l, e⟩⟩, hq⟩ : ∃ t, betweenR 0 16 4 r = t := ⟨_, rfl⟩
  rw [hq] at HC ⊢
  dsimp only at HC
  clear h hq
  obtain ⟨z, hz⟩ : ∃ z, l.length = z := ⟨_, rfl⟩
  have hsz : (strB l).size = z := by rw [strB_size, hz]
  by_cases h1 : z < n
  · have HT := Lib.hid (show textF (n, l, e) = ([], refuseR 2 (l, e)) by unfold textF; simp only; rw [if_pos (by omega)])
    rw [HT.out]
    have d1 : decide (z < n) = true := by simp; omega
    clear h1 hz HT
    go_enter Try.func59, Try.ntmps59
    go_wp2_with fail
    refine HC.out.mono ?_
    rintro x w1 ⟨rfl, k1⟩
    have K1 := Lib.hid k1
    have c0 := k1.1.c0
    dsimp only at c0
    clear k1
    go_wp2_with fail
    refine (refuse_any 2 K1.out.1).mono ?_
    rintro x w2 ⟨rfl, k2⟩
    have K2 := Lib.hid (K1.out.then_ k2)
    clear k2
    go_wp2_with fail
    go_ret
    exact ⟨rfl, K2.out⟩
  · have HT := Lib.hid (show textF (n, l, e) = (l.take n, l.drop n, e) by unfold textF; simp only; rw [if_neg (by omega)])
    rw [HT.out]
    have d1 : decide (z < n) = false := by simp; omega
    have HL := Lib.hid (show (l.drop n).length ≤ l.length by rw [List.length_drop]; omega)
    have HX1 := Lib.hid (strB_take l n)
    have HX2 := Lib.hid (show (strB l).extract n z = strB (l.drop n) by rw [← hz]; exact strB_drop l n)
    have i1 : (n : Int) ≤ (z : Int) := by omega
    have i0 : (0 : Int) ≤ (n : Int) := by omega
    clear h1 hz HT
    go_enter Try.func59, Try.ntmps59
    go_wp2_with fail
    refine HC.out.mono ?_
    rintro x w1 ⟨rfl, k1⟩
    have K1 := Lib.hid k1
    have c0 := k1.1.c0
    have f0 := k1.1.f 0
    dsimp only at c0
    have K2 := Lib.hid (K1.out.then_ (k1.1.set0 (l.drop n) HL.out))
    clear k1
    go_wp2_with fail
    go_ret
    rw [HX1.out, HX2.out]
    exact ⟨rfl, K2.out⟩
end Q
end Go.Proofs.Ytjldddpchiaalaa
