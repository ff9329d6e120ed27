/- rv's fetch and next. -/
import Derived.Test.YtclbkdnihhmglaaDoorZNB
import Derived.Test.YtclbkdnihhmglaaDoorZNA
import Derived.Test.YtclbkdnihhmglaaDoorZP10
import Derived.Test.YtclbkdnihhmglaaDoorZEC
import Derived.Test.YtclbkdnihhmglaaDoorZEH
import Derived.Outline
namespace Go.Proofs.YtclbkdnihhmglaaDoor
open Go.RowKit

set_option maxRecDepth 100000 in
set_option maxHeartbeats 1000000 in
theorem fetch_yes (k : Mc) (m : List M.Pg) {w : World} (hP : Pages w (.slice k.ma k.ml k.mc) m) (hw : Wf m) (T : E.Tabs w) (p0 : 0 ≤ k.pc) (p1 : k.pc ≤ 18446744073709551615) (kd rd ra rb i : Int)
    (h4 : k.pc % 4 = 0) (he : numErr m k.pc 4 1 = 0) (hv : loadV m k.pc 4 1 = E.wordI kd rd ra rb i) (hok : E.okI kd rd ra rb i = true) :
    Calls Tryd.prog 23 #[.agg (mcells k)] w fun e w' => e = .returned (.tuple #[.agg #[.int .i64 kd, .int .i64 rd, .int .i64 ra, .int .i64 rb, .int .i64 i], .bool true]) ∧ Below w.heap.size w w' := by
  have HL := Lib.hid (fun (W : World) (hb : Below w.heap.size w W) => load_any k.pc 4 1 (hP.next hb) hw p0 p1)
  have HT := Lib.hid (fun (W : World) (hb : Below w.heap.size w W) => E.take_word hok W (T.next hb))
  obtain ⟨v0, v1⟩ := E.wordI_in hok
  rw [he, hv] at HL
  obtain ⟨V, hV⟩ : ∃ V, E.wordI kd rd ra rb i = V := ⟨_, rfl⟩
  rw [hV] at HL HT v0 v1
  have c32 := mcells_32 k
  have c33 := mcells_33 k
  have m4 : (k.pc.tmod 4 != 0) = false := by rw [Int.tmod_eq_emod_of_nonneg p0, h4]; rfl
  have m5 : (k.pc % 4 != 0) = false := by rw [h4]; rfl
  have wv : IntKind.u32.wrap V = V := by rw [IntKind.wrap_u32]; omega
  have HF0 := E.Five.new (w.alloc (.cells (mcells k) 26)) 0 0 0 0 0
  rw [World.size_alloc] at HF0
  have HF0 := Lib.hid HF0
  clear hP hw T hv hV he hok h4
  go_enter Tryd.func23, Tryd.ntmps23
  go_wp2_with fail
  refine (HL.out _ (balloc (balloc (Below.refl _ w) _) _)).mono ?_
  rintro e w2 ⟨rfl, hb2⟩
  have HB2 := Lib.hid (bthen (balloc (balloc (Below.refl _ w) _) _) hb2)
  have HF2 := Lib.hid (HF0.out.next hb2)
  have hz := HB2.out.size
  have hz2 : w.heap.size + 1 < w2.heap.size := by have := hb2.size; simp at this; omega
  clear hb2
  go_wp2_with fail
  refine (HT.out _ HB2.out).mono ?_
  rintro e w3 ⟨rfl, hb3⟩
  have HB3 := Lib.hid (bthen HB2.out hb3)
  have hz3 : w.heap.size + 1 < w3.heap.size := by have := hb3.size; omega
  obtain ⟨c0, c1, c2, c3, c4, cf, cl⟩ := HF2.out.next hb3
  clear hb3
  go_wp2_with fail
  refine bodyPost_ret (v := .tuple #[.agg #[.int .i64 kd, .int .i64 rd, .int .i64 ra, .int .i64 rb, .int .i64 i], .bool true]) (by simp [results, Tryd.results23, go_sem, c0, c1, c2, c3, c4, cl]) rfl ⟨rfl, ?_⟩
  exact balloc (((((HB3.out.setCell (p := ⟨w.heap.size + 1, 0, none⟩) (by simp) _).setCell (p := ⟨w.heap.size + 1, 1, none⟩) (by simp) _).setCell (p := ⟨w.heap.size + 1, 2, none⟩) (by simp) _).setCell (p := ⟨w.heap.size + 1, 3, none⟩) (by simp) _).setCell (p := ⟨w.heap.size + 1, 4, none⟩) (by simp) _) _

/-- where a machine goes on -/
def nextI (k i a b pc : Int) : Int :=
  if 23 ≤ k ∧ k ≤ 26 then (if goesB k a b = true then IntKind.u64.wrap (pc + IntKind.u64.wrap i) else IntKind.u64.wrap (pc + 4))
  else if k = 29 then IntKind.u64.wrap (pc + IntKind.u64.wrap i)
  else if k = 30 then bits BinOp.andNot IntKind.u64 (IntKind.u64.wrap (a + IntKind.u64.wrap i)) 1
  else IntKind.u64.wrap (pc + 4)
set_option maxRecDepth 100000 in
set_option maxHeartbeats 1000000 in
theorem next_seq (k rd ra rb i a b pc : Int) (w : World) (h : ¬ (23 ≤ k ∧ k ≤ 26) ∧ k ≠ 29 ∧ k ≠ 30) :
    Calls Tryd.prog 44 #[.agg #[.int .i64 k, .int .i64 rd, .int .i64 ra, .int .i64 rb, .int .i64 i], .int .u64 a, .int .u64 b, .int .u64 pc] w fun e w' => e = .returned (.int .u64 (nextI k i a b pc)) ∧ Below w.heap.size w w' := by
  have HE := Lib.hid (show nextI k i a b pc = IntKind.u64.wrap (pc + 4) by unfold nextI; rw [if_neg h.1, if_neg h.2.1, if_neg h.2.2])
  have t23 : (k == 23) = false := by simp; omega
  have t24 : (k == 24) = false := by simp; omega
  have t25 : (k == 25) = false := by simp; omega
  have t26 : (k == 26) = false := by simp; omega
  have t29 : (k == 29) = false := by simp; omega
  have t30 : (k == 30) = false := by simp; omega
  clear h
  go_enter Tryd.func44, Tryd.ntmps44
  repeat (first | (with_reducible refine xt_exit ?_) | (with_reducible refine xb_hit ?_) | (with_reducible refine xb_skip rfl ?_) | (with_reducible refine xt_norm ?_) | (with_reducible refine xb_norm ?_) | (with_reducible refine xt_ret ?_) | (with_reducible refine xb_ret ?_) | (go_big_may; fail) | go_values | go_skip | go_guarded | go_step | go_upon | go_back)
  go_ret
  exact ⟨ret_int (by rw [HE.out]), balloc (Below.refl _ _) _⟩

/-- the closure that gives a register its value -/
theorem give_any (v : Int) (e1 : Int) (BO BM : Nat) (k : Mc) (kd rd ra rb i : Int) (w : World) (hO : E.Five w BO kd rd ra rb i) (hM : Mach w BM k) (r0 : 0 ≤ rd) (r1 : rd < 32) :
    Calls Tryd.prog 39 #[.int .u64 v, .int .i64 e1, .pointer (some ⟨BO, 0, none⟩), .pointer (some ⟨BM, 0, none⟩)] w fun e w' => e = .returned (.bool (e1 == 0)) ∧ w' = (if rd = 0 then w else w.setCell ⟨BM, rd.toNat, none⟩ (.int .u64 v)) := by
  obtain ⟨c0, c1, c2, c3, c4, cf, cl⟩ := hO
  obtain ⟨mx, -, -, -, -, -, -, -, mf⟩ := hM.cells
  obtain ⟨R, rfl⟩ := Int.eq_ofNat_of_zero_le r0
  have m1 := mx R (by omega)
  have m2 := mf R
  clear mx mf hM
  by_cases h0 : R = 0
  · subst h0
    go_enter Tryd.func39, Tryd.ntmps39
    go_wp2_with fail
    go_ret
    exact ⟨rfl, by simp⟩
  · have t0 : ((R : Int) != 0) = true := by simp; omega
    have i0 : (0 : Int) ≤ (R : Int) := by omega
    have i1 : (R : Int) < 32 := by omega
    go_enter Tryd.func39, Tryd.ntmps39
    go_wp2_with fail
    go_ret
    exact ⟨rfl, by first | rfl | simp [h0]⟩
end Go.Proofs.YtclbkdnihhmglaaDoor
