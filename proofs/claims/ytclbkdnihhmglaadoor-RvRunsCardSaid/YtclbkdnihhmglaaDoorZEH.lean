/- A walk of Word of the document's answer for layer 1, whatever the instruction is. A walk of Take of the document's answer for layer 1: it finds the kind whose word it is, if there is one. -/
import Derived.Test.YtclbkdnihhmglaaDoorZEF
import Derived.Test.YtclbkdnihhmglaaDoorZEG
import Derived.Laws.StructEq
namespace Go.Proofs.YtclbkdnihhmglaaDoor.E
open Go.RowKit

theorem rword_yes (k : Nat) (k1 : 1 ≤ k) (k2 : k < 32) (rd a b n : Int) (w : World) (hy : M.may k rd a b n = true) :
    Calls Tryd.prog 18 #[.agg #[.int .i64 k, .int .i64 rd, .int .i64 a, .int .i64 b, .int .i64 n]] w fun e w' => e = .returned (.tuple #[.int .u32 (M.word k rd a b n), .int .i64 0]) ∧ Below w.heap.size w w' := by
  rcases M.fm_cases k2 with e | e | e | e | e | e | e | e
  · exact rword_0 k k1 k2 e rd a b n w hy
  · exact rword_1 k k1 k2 e rd a b n w hy
  · exact rword_2 k k1 k2 e rd a b n w hy
  · exact rword_3 k k1 k2 e rd a b n w hy
  · exact rword_4 k k1 k2 e rd a b n w hy
  · exact rword_5 k k1 k2 e rd a b n w hy
  · exact rword_6 k k1 k2 e rd a b n w hy
  · exact rword_7 k k1 k2 e rd a b n w hy

set_option maxRecDepth 100000 in
set_option maxHeartbeats 1000000 in
theorem rword_f {k rd a b n : Int} (h : okI k rd a b n = false) (w : World) :
    Calls Tryd.prog 18 #[.agg #[.int .i64 k, .int .i64 rd, .int .i64 a, .int .i64 b, .int .i64 n]] w fun e w' => e = .returned (.tuple #[.int .u32 0, .int .i64 1]) ∧ Below w.heap.size w w' := by
  have HM : ∀ W, Calls Tryd.prog 31 #[.agg #[.int .i64 k, .int .i64 rd, .int .i64 a, .int .i64 b, .int .i64 n]] W fun e w' => e = .returned (.bool false) ∧ Below W.heap.size W w' := by
    intro W
    by_cases h1 : 1 ≤ k
    · by_cases h2 : k < 32
      · obtain ⟨K, rfl⟩ := Int.eq_ofNat_of_zero_le (show 0 ≤ k by omega)
        have hn : M.may K rd a b n = false := by simpa [okI, h1, h2] using h
        have hc := rmay_in K (by omega) (by omega) rd a b n W
        rw [hn] at hc
        exact hc
      · exact rmay_out k (.inr (by omega)) rd a b n W
    · exact rmay_out k (.inl (by omega)) rd a b n W
  have H1 := Lib.hid HM
  clear HM h
  go_enter Tryd.func18, Tryd.ntmps18
  go_wp2_with fail
  refine (H1.out _).mono ?_
  rintro e w1 ⟨rfl, hb1⟩
  go_wp2_with fail
  go_ret2
  exact ⟨rfl, bthen (balloc (Below.refl _ _) _) hb1⟩
theorem rword_t {k rd a b n : Int} (h : okI k rd a b n = true) (w : World) :
    Calls Tryd.prog 18 #[.agg #[.int .i64 k, .int .i64 rd, .int .i64 a, .int .i64 b, .int .i64 n]] w fun e w' => e = .returned (.tuple #[.int .u32 (wordI k rd a b n), .int .i64 0]) ∧ Below w.heap.size w w' := by
  obtain ⟨h1, h2, h3⟩ := okI_parts h
  obtain ⟨K, rfl⟩ := Int.eq_ofNat_of_zero_le (show 0 ≤ k by omega)
  exact rword_yes K (by omega) (by omega) rd a b n w h3
end Go.Proofs.YtclbkdnihhmglaaDoor.E

namespace Go.Proofs.YtclbkdnihhmglaaDoor.E
open Go.RowKit

/-- five numbers that lie in a block of their own -/
def Five (W : World) (B : Nat) (c0 c1 c2 c3 c4 : Int) : Prop :=
  W.cell? ⟨B, 0, none⟩ = some (.int .i64 c0) ∧ W.cell? ⟨B, 1, none⟩ = some (.int .i64 c1) ∧ W.cell? ⟨B, 2, none⟩ = some (.int .i64 c2) ∧ W.cell? ⟨B, 3, none⟩ = some (.int .i64 c3) ∧ W.cell? ⟨B, 4, none⟩ = some (.int .i64 c4) ∧
    (∀ j, W.frozen? ⟨B, j, none⟩ = false) ∧ B < W.heap.size
theorem Five.new (W : World) (c0 c1 c2 c3 c4 : Int) : Five (W.alloc (.cells #[.int .i64 c0, .int .i64 c1, .int .i64 c2, .int .i64 c3, .int .i64 c4] 35)) W.heap.size c0 c1 c2 c3 c4 :=
  ⟨by go_simp, by go_simp, by go_simp, by go_simp, by go_simp, fun j => by go_simp, by simp⟩
theorem Five.next {W W' : World} {B : Nat} {c0 c1 c2 c3 c4 : Int} (h : Five W B c0 c1 c2 c3 c4) (hb : Below W.heap.size W W') : Five W' B c0 c1 c2 c3 c4 := by
  obtain ⟨h0, h1, h2, h3, h4, hf, hl⟩ := h
  exact ⟨(hb.cell (p := ⟨B, 0, none⟩) hl).trans h0, (hb.cell (p := ⟨B, 1, none⟩) hl).trans h1, (hb.cell (p := ⟨B, 2, none⟩) hl).trans h2, (hb.cell (p := ⟨B, 3, none⟩) hl).trans h3, (hb.cell (p := ⟨B, 4, none⟩) hl).trans h4, fun j => (hb.frozen (p := ⟨B, j, none⟩) hl).trans (hf j), Nat.lt_of_lt_of_le hl hb.size⟩
theorem Five.set1 {W : World} {B : Nat} {c0 c1 c2 c3 c4 : Int} (h : Five W B c0 c1 c2 c3 c4) (x : Int) : Five (W.setCell ⟨B, 1, none⟩ (.int .i64 x)) B c0 x c2 c3 c4 := by
  obtain ⟨h0, h1, h2, h3, h4, hf, hl⟩ := h
  exact ⟨by go_simp, by go_simp, by go_simp, by go_simp, by go_simp, fun j => by have := hf j; go_simp, by simpa using hl⟩
theorem Five.set2 {W : World} {B : Nat} {c0 c1 c2 c3 c4 : Int} (h : Five W B c0 c1 c2 c3 c4) (x : Int) : Five (W.setCell ⟨B, 2, none⟩ (.int .i64 x)) B c0 c1 x c3 c4 := by
  obtain ⟨h0, h1, h2, h3, h4, hf, hl⟩ := h
  exact ⟨by go_simp, by go_simp, by go_simp, by go_simp, by go_simp, fun j => by have := hf j; go_simp, by simpa using hl⟩
theorem Five.set3 {W : World} {B : Nat} {c0 c1 c2 c3 c4 : Int} (h : Five W B c0 c1 c2 c3 c4) (x : Int) : Five (W.setCell ⟨B, 3, none⟩ (.int .i64 x)) B c0 c1 c2 x c4 := by
  obtain ⟨h0, h1, h2, h3, h4, hf, hl⟩ := h
  exact ⟨by go_simp, by go_simp, by go_simp, by go_simp, by go_simp, fun j => by have := hf j; go_simp, by simpa using hl⟩
theorem Five.set4 {W : World} {B : Nat} {c0 c1 c2 c3 c4 : Int} (h : Five W B c0 c1 c2 c3 c4) (x : Int) : Five (W.setCell ⟨B, 4, none⟩ (.int .i64 x)) B c0 c1 c2 c3 x := by
  obtain ⟨h0, h1, h2, h3, h4, hf, hl⟩ := h
  exact ⟨by go_simp, by go_simp, by go_simp, by go_simp, by go_simp, fun j => by have := hf j; go_simp, by simpa using hl⟩

/-- what Take has to know of a kind -/
def Knows (v : Int) (k : Nat) (D A B I : Int) : Prop :=
  M.okAt v k = (M.may k D A B I && decide (M.word k D A B I = v)) ∧ (M.okAt v k = true → M.tRd k v = D ∧ M.tA k v = A ∧ M.tB k v = B ∧ M.tI k v = I)
theorem Knows.mk0 {v : Int} {k : Nat} {D A B I : Int} (hD : M.tRd k v = D) (hA : M.tA k v = A) (hB : M.tB k v = B) (hI : M.tI k v = I) : Knows v k D A B I := by
  subst hD hA hB hI
  exact ⟨rfl, fun _ => ⟨rfl, rfl, rfl, rfl⟩⟩
theorem sg_far {p : Int} (h : p < 2048) : M.sg p 2048 = p := by unfold M.sg; rw [if_pos h]
theorem sg_19 {p : Int} (h0 : 0 ≤ p) (h1 : p < 1048576) : M.sg (p * 4096) 2147483648 = M.sg p 524288 * 4096 := by unfold M.sg; split <;> split <;> omega
theorem knows_0 {v : Int} {k : Nat} (e : M.fm k = 0) : Knows v k (v / 128 % 32) (v / 32768 % 32) (v / 1048576 % 32) 0 :=
  .mk0 (by simp [M.tRd, e, M.hasRd]) (by simp [M.tA, e, M.hasA]) (by simp [M.tB, e, M.hasB]) (by simp [M.tI, e, M.takeImm])
theorem knows_1 {v : Int} {k : Nat} (e : M.fm k = 1) : Knows v k (v / 128 % 32) (v / 32768 % 32) 0 (M.sg (v / 1048576 % 4096) 2048) :=
  .mk0 (by simp [M.tRd, e, M.hasRd]) (by simp [M.tA, e, M.hasA]) (by simp [M.tB, e, M.hasB]) (by simp [M.tI, e, M.takeImm])
theorem knows_2 {v : Int} {k : Nat} (e : M.fm k = 2) : Knows v k (v / 128 % 32) (v / 32768 % 32) 0 (v / 1048576 % 4096) := by
  by_cases h : v / 1048576 % 4096 < 2048
  · exact .mk0 (by simp [M.tRd, e, M.hasRd]) (by simp [M.tA, e, M.hasA]) (by simp [M.tB, e, M.hasB]) (by simp only [M.tI, e, M.takeImm]; exact sg_far h)
  · have hi : M.tI k v = v / 1048576 % 4096 - 4096 := by simp only [M.tI, e, M.takeImm, M.sg]; rw [if_neg h]; omega
    have h1 : M.may k (M.tRd k v) (M.tA k v) (M.tB k v) (M.tI k v) = false := by
      simp only [M.may, e, M.imm, M.lo, M.hi, M.mu, hi]
      simp
      intro _ _ _ h5
      omega
    have h2 : M.may k (v / 128 % 32) (v / 32768 % 32) 0 (v / 1048576 % 4096) = false := by
      simp only [M.may, e, M.imm, M.lo, M.hi, M.mu]
      simp
      intro _ _ _ h5
      omega
    have h3 : M.okAt v k = false := by simp [M.okAt, h1]
    exact ⟨by rw [h3, h2]; rfl, fun hc => by rw [h3] at hc; cases hc⟩
theorem knows_3 {v : Int} {k : Nat} (e : M.fm k = 3) : Knows v k 0 (v / 32768 % 32) (v / 1048576 % 32) (M.sg (v / 128 % 32 + 32 * (v / 33554432 % 128)) 2048) :=
  .mk0 (by simp [M.tRd, e, M.hasRd]) (by simp [M.tA, e, M.hasA]) (by simp [M.tB, e, M.hasB]) (by simp only [M.tI, e, M.takeImm]; rw [Int.mul_comm])
theorem knows_4 {v : Int} {k : Nat} (e : M.fm k = 4) : Knows v k 0 (v / 32768 % 32) (v / 1048576 % 32) (M.sg (2 * (v / 256 % 16) + 32 * (v / 33554432 % 64) + 2048 * (v / 128 % 2) + 4096 * (v / 2147483648 % 2)) 4096) :=
  .mk0 (by simp [M.tRd, e, M.hasRd]) (by simp [M.tA, e, M.hasA]) (by simp [M.tB, e, M.hasB]) (by simp only [M.tI, e, M.takeImm]; exact congrArg (M.sg · 4096) (by omega))
theorem knows_5 {v : Int} {k : Nat} (e : M.fm k = 5) : Knows v k (v / 128 % 32) 0 0 (M.sg (v / 4096 % 1048576) 524288 * 4096) :=
  .mk0 (by simp [M.tRd, e, M.hasRd]) (by simp [M.tA, e, M.hasA]) (by simp [M.tB, e, M.hasB]) (by simp only [M.tI, e, M.takeImm]; exact sg_19 (by omega) (by omega))
theorem knows_6 {v : Int} {k : Nat} (e : M.fm k = 6) : Knows v k (v / 128 % 32) 0 0 (M.sg (2 * (v / 2097152 % 1024) + 2048 * (v / 1048576 % 2) + 4096 * (v / 4096 % 256) + 1048576 * (v / 2147483648 % 2)) 1048576) :=
  .mk0 (by simp [M.tRd, e, M.hasRd]) (by simp [M.tA, e, M.hasA]) (by simp [M.tB, e, M.hasB]) (by simp only [M.tI, e, M.takeImm]; exact congrArg (M.sg · 1048576) (by omega))
theorem knows_7 {v : Int} {k : Nat} (e : M.fm k = 7) : Knows v k 0 0 0 0 :=
  .mk0 (by simp [M.tRd, e, M.hasRd]) (by simp [M.tA, e, M.hasA]) (by simp [M.tB, e, M.hasB]) (by simp [M.tI, e, M.takeImm])
theorem sg_in {p h : Int} (p0 : 0 ≤ p) (p1 : p < 2 * h) : -h ≤ M.sg p h ∧ M.sg p h < h := by unfold M.sg; split <;> omega
theorem rword_no (k : Nat) (k1 : 1 ≤ k) (k2 : k < 32) (rd a b n : Int) (w : World) (hy : M.may k rd a b n = false) :
    Calls Tryd.prog 18 #[.agg #[.int .i64 k, .int .i64 rd, .int .i64 a, .int .i64 b, .int .i64 n]] w fun e w' => e = .returned (.tuple #[.int .u32 0, .int .i64 1]) ∧ Below w.heap.size w w' :=
  rword_f (by have h1 : (1 : Int) ≤ (k : Int) := by omega
              have h2 : (k : Int) < 32 := by omega
              simp [okI, h1, h2, hy]) w

set_option maxRecDepth 100000 in
set_option maxHeartbeats 16000000 in
theorem rtake_any (v : Int) (w : World) (v0 : 0 ≤ v) (v1 : v < 4294967296) : Calls Tryd.prog 27 #[.int .u32 v] w (TakePost v w) := by
  go_enter Tryd.func27, Tryd.ntmps27
  go_wp2_with fail
  go_loopw [4] (fun i wr => TakeRel v w i wr) (fun i _ => 32 - (intOf i).toNat)
  case atStart => exact ⟨1, by omega, by omega, rfl, fun k h1 h2 => by omega, Below.refl _ _⟩
  case round =>
    obtain ⟨k, k1, k2, rfl, hno, hb⟩ := hrel
    have hno' := Lib.hid hno
    clear hno
    by_cases hlt : k < 32
    · have HB := Lib.hid hb
      clear hb
      rcases M.fm_cases hlt with e | e | e | e | e | e | e | e
      · have HF0 := fun W => form_any k k1 hlt W
        rw [e, show letter 0 = 82 from rfl] at HF0
        have HF := Lib.hid HF0
        clear HF0
        have HK := Lib.hid (knows_0 (v := v) e)
        clear e
        go_wp2_with fail
        refine (HF.out _).mono ?_
        rintro e w' ⟨rfl, rfl⟩
        go_wp2_with fail
        have F0 := Lib.hid (Five.new wr (k : Int) 0 0 0 0)
        have B0 := Lib.hid (balloc (Below.refl wr.heap.size wr) (.cells #[.int .i64 k, .int .i64 0, .int .i64 0, .int .i64 0, .int .i64 0] 35))
        refine (part_lit _ 7 5 128 32 pw7 pw5 v0 v1 (by omega) (by omega) (by omega) (by omega) _).mono ?_
        rintro e u1 ⟨rfl, hb1⟩
        have F1 := Lib.hid (F0.out.next hb1)
        have B1 := Lib.hid (bthen B0.out hb1)
        clear hb1 F0 B0
        have F0 := F1
        have B0 := B1
        clear F1 B1
        have l1 : 0 ≤ v / 128 % 32 := by omega
        have r1 : v / 128 % 32 < 32 := by omega
        generalize v / 128 % 32 = p1 at *
        obtain ⟨e0, e1, e2, e3, e4, ef, eb⟩ := F0.out
        have f0 := ef 0
        have f1 := ef 1
        have f2 := ef 2
        have f3 := ef 3
        have f4 := ef 4
        clear ef
        go_wp2_with fail
        clear e0 e1 e2 e3 e4 f0 f1 f2 f3 f4 eb
        have F1 := Lib.hid (F0.out.set1 p1)
        have B1 := Lib.hid (B0.out.setCell (p := ⟨wr.heap.size, 1, none⟩) (Nat.le_refl _) (.int .i64 p1))
        clear F0 B0
        have F0 := F1
        have B0 := B1
        clear F1 B1
        refine (part_lit _ 15 5 32768 32 pw15 pw5 v0 v1 (by omega) (by omega) (by omega) (by omega) _).mono ?_
        rintro e u2 ⟨rfl, hb2⟩
        have F1 := Lib.hid (F0.out.next hb2)
        have B1 := Lib.hid (bthen B0.out hb2)
        clear hb2 F0 B0
        have F0 := F1
        have B0 := B1
        clear F1 B1
        have l2 : 0 ≤ v / 32768 % 32 := by omega
        have r2 : v / 32768 % 32 < 32 := by omega
        generalize v / 32768 % 32 = p2 at *
        obtain ⟨e0, e1, e2, e3, e4, ef, eb⟩ := F0.out
        have f0 := ef 0
        have f1 := ef 1
        have f2 := ef 2
        have f3 := ef 3
        have f4 := ef 4
        clear ef
        go_wp2_with fail
        clear e0 e1 e2 e3 e4 f0 f1 f2 f3 f4 eb
        have F1 := Lib.hid (F0.out.set2 p2)
        have B1 := Lib.hid (B0.out.setCell (p := ⟨wr.heap.size, 2, none⟩) (Nat.le_refl _) (.int .i64 p2))
        clear F0 B0
        have F0 := F1
        have B0 := B1
        clear F1 B1
        refine (part_lit _ 20 5 1048576 32 pw20 pw5 v0 v1 (by omega) (by omega) (by omega) (by omega) _).mono ?_
        rintro e u3 ⟨rfl, hb3⟩
        have F1 := Lib.hid (F0.out.next hb3)
        have B1 := Lib.hid (bthen B0.out hb3)
        clear hb3 F0 B0
        have F0 := F1
        have B0 := B1
        clear F1 B1
        have l3 : 0 ≤ v / 1048576 % 32 := by omega
        have r3 : v / 1048576 % 32 < 32 := by omega
        generalize v / 1048576 % 32 = p3 at *
        obtain ⟨e0, e1, e2, e3, e4, ef, eb⟩ := F0.out
        have f0 := ef 0
        have f1 := ef 1
        have f2 := ef 2
        have f3 := ef 3
        have f4 := ef 4
        clear ef
        go_wp2_with fail
        clear e0 e1 e2 e3 e4 f0 f1 f2 f3 f4 eb
        have F1 := Lib.hid (F0.out.set3 p3)
        have B1 := Lib.hid (B0.out.setCell (p := ⟨wr.heap.size, 3, none⟩) (Nat.le_refl _) (.int .i64 p3))
        clear F0 B0
        have F0 := F1
        have B0 := B1
        clear F1 B1
        have Z0 : wr.heap.size < _ := F0.out.2.2.2.2.2.2
        by_cases hy : M.may k p1 p2 p3 0 = true
        · by_cases hw : M.word k p1 p2 p3 0 = v
          · have hw' : (M.word k p1 p2 p3 0 == v) = true := by simp [hw]
            have hok := Lib.hid (show M.okAt v k = true by rw [HK.out.1, hy, hw]; simp)
            refine (rword_yes k k1 hlt p1 p2 p3 0 _ hy).mono ?_
            rintro e w3 ⟨rfl, hb4⟩
            have F1 := Lib.hid (F0.out.next hb4)
            have BW := Lib.hid (bthen B0.out hb4)
            clear hb4 F0 B0
            have BT := Lib.hid (HB.out.trans (BW.out.mono (by have := HB.out.size; simp at this; omega)))
            obtain ⟨⟨y0, y1, y2, y3, y4⟩, yf⟩ := zero_cells BT.out
            have x0 := yf 0
            have x1 := yf 1
            have x2 := yf 2
            have x3 := yf 3
            have x4 := yf 4
            clear yf
            obtain ⟨g0, g1, g2, g3, g4, gf, gb⟩ := F1.out
            clear gf
            have hz : w.heap.size + 1 ≤ w3.heap.size := by have := BT.out.size; simpa using this
            clear hw Z0
            go_wp2_with fail
            refine bodyPost_ret (v := .tuple #[.agg #[.int .i64 k, .int .i64 p1, .int .i64 p2, .int .i64 p3, .int .i64 0], .int .i64 0]) (by simp [results, Tryd.results27, go_sem, *]) rfl ⟨.inl ⟨k, k1, hlt, hok.out, ?_⟩, ?_⟩
            · obtain ⟨t1, t2, t3, t4⟩ := HK.out.2 hok.out
              rw [t1, t2, t3, t4]
            · exact (((((from_start BT.out).setCell (Nat.le_refl _) _).setCell (Nat.le_refl _) _).setCell (Nat.le_refl _) _).setCell (Nat.le_refl _) _).setCell (Nat.le_refl _) _
          · have hw' : (M.word k p1 p2 p3 0 == v) = false := by simp [hw]
            have hok := Lib.hid (show M.okAt v k = false by rw [HK.out.1]; simp [hw])
            refine (rword_yes k k1 hlt p1 p2 p3 0 _ hy).mono ?_
            rintro e w3 ⟨rfl, hb4⟩
            have F1 := Lib.hid (F0.out.next hb4)
            have BW := Lib.hid (bthen B0.out hb4)
            clear hb4 F0 B0
            clear hw F1 Z0
            go_wp2_with fail
            go_roundw
            case rel => exact rel_next k1 hlt hno'.out hok.out HB.out BW.out
            case measure => simp [intOf]; omega
        · have hy' : M.may k p1 p2 p3 0 = false := by simpa using hy
          have hok := Lib.hid (show M.okAt v k = false by rw [HK.out.1, hy']; rfl)
          clear hy
          refine (rword_no k k1 hlt p1 p2 p3 0 _ hy').mono ?_
          rintro e w3 ⟨rfl, hb4⟩
          have F1 := Lib.hid (F0.out.next hb4)
          have BW := Lib.hid (bthen B0.out hb4)
          clear hb4 F0 B0
          clear F1 Z0
          go_wp2_with fail
          go_roundw
          case rel => exact rel_next k1 hlt hno'.out hok.out HB.out BW.out
          case measure => simp [intOf]; omega
      · have HF0 := fun W => form_any k k1 hlt W
        rw [e, show letter 1 = 73 from rfl] at HF0
        have HF := Lib.hid HF0
        clear HF0
        have HK := Lib.hid (knows_1 (v := v) e)
        clear e
        go_wp2_with fail
        refine (HF.out _).mono ?_
        rintro e w' ⟨rfl, rfl⟩
        go_wp2_with fail
        have F0 := Lib.hid (Five.new wr (k : Int) 0 0 0 0)
        have B0 := Lib.hid (balloc (Below.refl wr.heap.size wr) (.cells #[.int .i64 k, .int .i64 0, .int .i64 0, .int .i64 0, .int .i64 0] 35))
        refine (part_lit _ 7 5 128 32 pw7 pw5 v0 v1 (by omega) (by omega) (by omega) (by omega) _).mono ?_
        rintro e u1 ⟨rfl, hb1⟩
        have F1 := Lib.hid (F0.out.next hb1)
        have B1 := Lib.hid (bthen B0.out hb1)
        clear hb1 F0 B0
        have F0 := F1
        have B0 := B1
        clear F1 B1
        have l1 : 0 ≤ v / 128 % 32 := by omega
        have r1 : v / 128 % 32 < 32 := by omega
        generalize v / 128 % 32 = p1 at *
        obtain ⟨e0, e1, e2, e3, e4, ef, eb⟩ := F0.out
        have f0 := ef 0
        have f1 := ef 1
        have f2 := ef 2
        have f3 := ef 3
        have f4 := ef 4
        clear ef
        go_wp2_with fail
        clear e0 e1 e2 e3 e4 f0 f1 f2 f3 f4 eb
        have F1 := Lib.hid (F0.out.set1 p1)
        have B1 := Lib.hid (B0.out.setCell (p := ⟨wr.heap.size, 1, none⟩) (Nat.le_refl _) (.int .i64 p1))
        clear F0 B0
        have F0 := F1
        have B0 := B1
        clear F1 B1
        refine (part_lit _ 15 5 32768 32 pw15 pw5 v0 v1 (by omega) (by omega) (by omega) (by omega) _).mono ?_
        rintro e u2 ⟨rfl, hb2⟩
        have F1 := Lib.hid (F0.out.next hb2)
        have B1 := Lib.hid (bthen B0.out hb2)
        clear hb2 F0 B0
        have F0 := F1
        have B0 := B1
        clear F1 B1
        have l2 : 0 ≤ v / 32768 % 32 := by omega
        have r2 : v / 32768 % 32 < 32 := by omega
        generalize v / 32768 % 32 = p2 at *
        obtain ⟨e0, e1, e2, e3, e4, ef, eb⟩ := F0.out
        have f0 := ef 0
        have f1 := ef 1
        have f2 := ef 2
        have f3 := ef 3
        have f4 := ef 4
        clear ef
        go_wp2_with fail
        clear e0 e1 e2 e3 e4 f0 f1 f2 f3 f4 eb
        have F1 := Lib.hid (F0.out.set2 p2)
        have B1 := Lib.hid (B0.out.setCell (p := ⟨wr.heap.size, 2, none⟩) (Nat.le_refl _) (.int .i64 p2))
        clear F0 B0
        have F0 := F1
        have B0 := B1
        clear F1 B1
        refine (part_lit _ 20 12 1048576 4096 pw20 pw12 v0 v1 (by omega) (by omega) (by omega) (by omega) _).mono ?_
        rintro e u3 ⟨rfl, hb3⟩
        have F1 := Lib.hid (F0.out.next hb3)
        have B1 := Lib.hid (bthen B0.out hb3)
        clear hb3 F0 B0
        have F0 := F1
        have B0 := B1
        clear F1 B1
        have l3 : 0 ≤ v / 1048576 % 4096 := by omega
        have r3 : v / 1048576 % 4096 < 4096 := by omega
        generalize v / 1048576 % 4096 = p3 at *
        go_wp2_with fail
        refine (below_any _ 12 2048 (by decide +kernel) (by omega) (by omega) (by omega) (by omega) (by omega) (by omega) _).mono ?_
        rintro e w' ⟨rfl, rfl⟩
        obtain ⟨i0, i1⟩ := sg_in (p := p3) (h := 2048) (by omega) (by omega)
        generalize M.sg (p3) 2048 = i at *
        obtain ⟨e0, e1, e2, e3, e4, ef, eb⟩ := F0.out
        have f0 := ef 0
        have f1 := ef 1
        have f2 := ef 2
        have f3 := ef 3
        have f4 := ef 4
        clear ef
        go_wp2_with fail
        clear e0 e1 e2 e3 e4 f0 f1 f2 f3 f4 eb
        have F1 := Lib.hid (F0.out.set4 i)
        have B1 := Lib.hid (B0.out.setCell (p := ⟨wr.heap.size, 4, none⟩) (Nat.le_refl _) (.int .i64 i))
        clear F0 B0
        have F0 := F1
        have B0 := B1
        clear F1 B1
        have Z0 : wr.heap.size < _ := F0.out.2.2.2.2.2.2
        by_cases hy : M.may k p1 p2 0 i = true
        · by_cases hw : M.word k p1 p2 0 i = v
          · have hw' : (M.word k p1 p2 0 i == v) = true := by simp [hw]
            have hok := Lib.hid (show M.okAt v k = true by rw [HK.out.1, hy, hw]; simp)
            refine (rword_yes k k1 hlt p1 p2 0 i _ hy).mono ?_
            rintro e w3 ⟨rfl, hb4⟩
            have F1 := Lib.hid (F0.out.next hb4)
            have BW := Lib.hid (bthen B0.out hb4)
            clear hb4 F0 B0
            have BT := Lib.hid (HB.out.trans (BW.out.mono (by have := HB.out.size; simp at this; omega)))
            obtain ⟨⟨y0, y1, y2, y3, y4⟩, yf⟩ := zero_cells BT.out
            have x0 := yf 0
            have x1 := yf 1
            have x2 := yf 2
            have x3 := yf 3
            have x4 := yf 4
            clear yf
            obtain ⟨g0, g1, g2, g3, g4, gf, gb⟩ := F1.out
            clear gf
            have hz : w.heap.size + 1 ≤ w3.heap.size := by have := BT.out.size; simpa using this
            clear hw Z0
            go_wp2_with fail
            refine bodyPost_ret (v := .tuple #[.agg #[.int .i64 k, .int .i64 p1, .int .i64 p2, .int .i64 0, .int .i64 i], .int .i64 0]) (by simp [results, Tryd.results27, go_sem, *]) rfl ⟨.inl ⟨k, k1, hlt, hok.out, ?_⟩, ?_⟩
            · obtain ⟨t1, t2, t3, t4⟩ := HK.out.2 hok.out
              rw [t1, t2, t3, t4]
            · exact (((((from_start BT.out).setCell (Nat.le_refl _) _).setCell (Nat.le_refl _) _).setCell (Nat.le_refl _) _).setCell (Nat.le_refl _) _).setCell (Nat.le_refl _) _
          · have hw' : (M.word k p1 p2 0 i == v) = false := by simp [hw]
            have hok := Lib.hid (show M.okAt v k = false by rw [HK.out.1]; simp [hw])
            refine (rword_yes k k1 hlt p1 p2 0 i _ hy).mono ?_
            rintro e w3 ⟨rfl, hb4⟩
            have F1 := Lib.hid (F0.out.next hb4)
            have BW := Lib.hid (bthen B0.out hb4)
            clear hb4 F0 B0
            clear hw F1 Z0
            go_wp2_with fail
            go_roundw
            case rel => exact rel_next k1 hlt hno'.out hok.out HB.out BW.out
            case measure => simp [intOf]; omega
        · have hy' : M.may k p1 p2 0 i = false := by simpa using hy
          have hok := Lib.hid (show M.okAt v k = false by rw [HK.out.1, hy']; rfl)
          clear hy
          refine (rword_no k k1 hlt p1 p2 0 i _ hy').mono ?_
          rintro e w3 ⟨rfl, hb4⟩
          have F1 := Lib.hid (F0.out.next hb4)
          have BW := Lib.hid (bthen B0.out hb4)
          clear hb4 F0 B0
          clear F1 Z0
          go_wp2_with fail
          go_roundw
          case rel => exact rel_next k1 hlt hno'.out hok.out HB.out BW.out
          case measure => simp [intOf]; omega
      · have HF0 := fun W => form_any k k1 hlt W
        rw [e, show letter 2 = 72 from rfl] at HF0
        have HF := Lib.hid HF0
        clear HF0
        have HK := Lib.hid (knows_2 (v := v) e)
        clear e
        go_wp2_with fail
        refine (HF.out _).mono ?_
        rintro e w' ⟨rfl, rfl⟩
        go_wp2_with fail
        have F0 := Lib.hid (Five.new wr (k : Int) 0 0 0 0)
        have B0 := Lib.hid (balloc (Below.refl wr.heap.size wr) (.cells #[.int .i64 k, .int .i64 0, .int .i64 0, .int .i64 0, .int .i64 0] 35))
        refine (part_lit _ 7 5 128 32 pw7 pw5 v0 v1 (by omega) (by omega) (by omega) (by omega) _).mono ?_
        rintro e u1 ⟨rfl, hb1⟩
        have F1 := Lib.hid (F0.out.next hb1)
        have B1 := Lib.hid (bthen B0.out hb1)
        clear hb1 F0 B0
        have F0 := F1
        have B0 := B1
        clear F1 B1
        have l1 : 0 ≤ v / 128 % 32 := by omega
        have r1 : v / 128 % 32 < 32 := by omega
        generalize v / 128 % 32 = p1 at *
        obtain ⟨e0, e1, e2, e3, e4, ef, eb⟩ := F0.out
        have f0 := ef 0
        have f1 := ef 1
        have f2 := ef 2
        have f3 := ef 3
        have f4 := ef 4
        clear ef
        go_wp2_with fail
        clear e0 e1 e2 e3 e4 f0 f1 f2 f3 f4 eb
        have F1 := Lib.hid (F0.out.set1 p1)
        have B1 := Lib.hid (B0.out.setCell (p := ⟨wr.heap.size, 1, none⟩) (Nat.le_refl _) (.int .i64 p1))
        clear F0 B0
        have F0 := F1
        have B0 := B1
        clear F1 B1
        refine (part_lit _ 15 5 32768 32 pw15 pw5 v0 v1 (by omega) (by omega) (by omega) (by omega) _).mono ?_
        rintro e u2 ⟨rfl, hb2⟩
        have F1 := Lib.hid (F0.out.next hb2)
        have B1 := Lib.hid (bthen B0.out hb2)
        clear hb2 F0 B0
        have F0 := F1
        have B0 := B1
        clear F1 B1
        have l2 : 0 ≤ v / 32768 % 32 := by omega
        have r2 : v / 32768 % 32 < 32 := by omega
        generalize v / 32768 % 32 = p2 at *
        obtain ⟨e0, e1, e2, e3, e4, ef, eb⟩ := F0.out
        have f0 := ef 0
        have f1 := ef 1
        have f2 := ef 2
        have f3 := ef 3
        have f4 := ef 4
        clear ef
        go_wp2_with fail
        clear e0 e1 e2 e3 e4 f0 f1 f2 f3 f4 eb
        have F1 := Lib.hid (F0.out.set2 p2)
        have B1 := Lib.hid (B0.out.setCell (p := ⟨wr.heap.size, 2, none⟩) (Nat.le_refl _) (.int .i64 p2))
        clear F0 B0
        have F0 := F1
        have B0 := B1
        clear F1 B1
        refine (part_lit _ 20 12 1048576 4096 pw20 pw12 v0 v1 (by omega) (by omega) (by omega) (by omega) _).mono ?_
        rintro e u3 ⟨rfl, hb3⟩
        have F1 := Lib.hid (F0.out.next hb3)
        have B1 := Lib.hid (bthen B0.out hb3)
        clear hb3 F0 B0
        have F0 := F1
        have B0 := B1
        clear F1 B1
        have l3 : 0 ≤ v / 1048576 % 4096 := by omega
        have r3 : v / 1048576 % 4096 < 4096 := by omega
        generalize v / 1048576 % 4096 = p3 at *
        obtain ⟨e0, e1, e2, e3, e4, ef, eb⟩ := F0.out
        have f0 := ef 0
        have f1 := ef 1
        have f2 := ef 2
        have f3 := ef 3
        have f4 := ef 4
        clear ef
        go_wp2_with fail
        clear e0 e1 e2 e3 e4 f0 f1 f2 f3 f4 eb
        have F1 := Lib.hid (F0.out.set4 p3)
        have B1 := Lib.hid (B0.out.setCell (p := ⟨wr.heap.size, 4, none⟩) (Nat.le_refl _) (.int .i64 p3))
        clear F0 B0
        have F0 := F1
        have B0 := B1
        clear F1 B1
        have Z0 : wr.heap.size < _ := F0.out.2.2.2.2.2.2
        by_cases hy : M.may k p1 p2 0 p3 = true
        · by_cases hw : M.word k p1 p2 0 p3 = v
          · have hw' : (M.word k p1 p2 0 p3 == v) = true := by simp [hw]
            have hok := Lib.hid (show M.okAt v k = true by rw [HK.out.1, hy, hw]; simp)
            refine (rword_yes k k1 hlt p1 p2 0 p3 _ hy).mono ?_
            rintro e w3 ⟨rfl, hb4⟩
            have F1 := Lib.hid (F0.out.next hb4)
            have BW := Lib.hid (bthen B0.out hb4)
            clear hb4 F0 B0
            have BT := Lib.hid (HB.out.trans (BW.out.mono (by have := HB.out.size; simp at this; omega)))
            obtain ⟨⟨y0, y1, y2, y3, y4⟩, yf⟩ := zero_cells BT.out
            have x0 := yf 0
            have x1 := yf 1
            have x2 := yf 2
            have x3 := yf 3
            have x4 := yf 4
            clear yf
            obtain ⟨g0, g1, g2, g3, g4, gf, gb⟩ := F1.out
            clear gf
            have hz : w.heap.size + 1 ≤ w3.heap.size := by have := BT.out.size; simpa using this
            clear hw Z0
            go_wp2_with fail
            refine bodyPost_ret (v := .tuple #[.agg #[.int .i64 k, .int .i64 p1, .int .i64 p2, .int .i64 0, .int .i64 p3], .int .i64 0]) (by simp [results, Tryd.results27, go_sem, *]) rfl ⟨.inl ⟨k, k1, hlt, hok.out, ?_⟩, ?_⟩
            · obtain ⟨t1, t2, t3, t4⟩ := HK.out.2 hok.out
              rw [t1, t2, t3, t4]
            · exact (((((from_start BT.out).setCell (Nat.le_refl _) _).setCell (Nat.le_refl _) _).setCell (Nat.le_refl _) _).setCell (Nat.le_refl _) _).setCell (Nat.le_refl _) _
          · have hw' : (M.word k p1 p2 0 p3 == v) = false := by simp [hw]
            have hok := Lib.hid (show M.okAt v k = false by rw [HK.out.1]; simp [hw])
            refine (rword_yes k k1 hlt p1 p2 0 p3 _ hy).mono ?_
            rintro e w3 ⟨rfl, hb4⟩
            have F1 := Lib.hid (F0.out.next hb4)
            have BW := Lib.hid (bthen B0.out hb4)
            clear hb4 F0 B0
            clear hw F1 Z0
            go_wp2_with fail
            go_roundw
            case rel => exact rel_next k1 hlt hno'.out hok.out HB.out BW.out
            case measure => simp [intOf]; omega
        · have hy' : M.may k p1 p2 0 p3 = false := by simpa using hy
          have hok := Lib.hid (show M.okAt v k = false by rw [HK.out.1, hy']; rfl)
          clear hy
          refine (rword_no k k1 hlt p1 p2 0 p3 _ hy').mono ?_
          rintro e w3 ⟨rfl, hb4⟩
          have F1 := Lib.hid (F0.out.next hb4)
          have BW := Lib.hid (bthen B0.out hb4)
          clear hb4 F0 B0
          clear F1 Z0
          go_wp2_with fail
          go_roundw
          case rel => exact rel_next k1 hlt hno'.out hok.out HB.out BW.out
          case measure => simp [intOf]; omega
      · have HF0 := fun W => form_any k k1 hlt W
        rw [e, show letter 3 = 83 from rfl] at HF0
        have HF := Lib.hid HF0
        clear HF0
        have HK := Lib.hid (knows_3 (v := v) e)
        clear e
        go_wp2_with fail
        refine (HF.out _).mono ?_
        rintro e w' ⟨rfl, rfl⟩
        go_wp2_with fail
        have F0 := Lib.hid (Five.new wr (k : Int) 0 0 0 0)
        have B0 := Lib.hid (balloc (Below.refl wr.heap.size wr) (.cells #[.int .i64 k, .int .i64 0, .int .i64 0, .int .i64 0, .int .i64 0] 35))
        refine (part_lit _ 15 5 32768 32 pw15 pw5 v0 v1 (by omega) (by omega) (by omega) (by omega) _).mono ?_
        rintro e u1 ⟨rfl, hb1⟩
        have F1 := Lib.hid (F0.out.next hb1)
        have B1 := Lib.hid (bthen B0.out hb1)
        clear hb1 F0 B0
        have F0 := F1
        have B0 := B1
        clear F1 B1
        have l1 : 0 ≤ v / 32768 % 32 := by omega
        have r1 : v / 32768 % 32 < 32 := by omega
        generalize v / 32768 % 32 = p1 at *
        obtain ⟨e0, e1, e2, e3, e4, ef, eb⟩ := F0.out
        have f0 := ef 0
        have f1 := ef 1
        have f2 := ef 2
        have f3 := ef 3
        have f4 := ef 4
        clear ef
        go_wp2_with fail
        clear e0 e1 e2 e3 e4 f0 f1 f2 f3 f4 eb
        have F1 := Lib.hid (F0.out.set2 p1)
        have B1 := Lib.hid (B0.out.setCell (p := ⟨wr.heap.size, 2, none⟩) (Nat.le_refl _) (.int .i64 p1))
        clear F0 B0
        have F0 := F1
        have B0 := B1
        clear F1 B1
        refine (part_lit _ 20 5 1048576 32 pw20 pw5 v0 v1 (by omega) (by omega) (by omega) (by omega) _).mono ?_
        rintro e u2 ⟨rfl, hb2⟩
        have F1 := Lib.hid (F0.out.next hb2)
        have B1 := Lib.hid (bthen B0.out hb2)
        clear hb2 F0 B0
        have F0 := F1
        have B0 := B1
        clear F1 B1
        have l2 : 0 ≤ v / 1048576 % 32 := by omega
        have r2 : v / 1048576 % 32 < 32 := by omega
        generalize v / 1048576 % 32 = p2 at *
        obtain ⟨e0, e1, e2, e3, e4, ef, eb⟩ := F0.out
        have f0 := ef 0
        have f1 := ef 1
        have f2 := ef 2
        have f3 := ef 3
        have f4 := ef 4
        clear ef
        go_wp2_with fail
        clear e0 e1 e2 e3 e4 f0 f1 f2 f3 f4 eb
        have F1 := Lib.hid (F0.out.set3 p2)
        have B1 := Lib.hid (B0.out.setCell (p := ⟨wr.heap.size, 3, none⟩) (Nat.le_refl _) (.int .i64 p2))
        clear F0 B0
        have F0 := F1
        have B0 := B1
        clear F1 B1
        refine (part_lit _ 7 5 128 32 pw7 pw5 v0 v1 (by omega) (by omega) (by omega) (by omega) _).mono ?_
        rintro e u3 ⟨rfl, hb3⟩
        have F1 := Lib.hid (F0.out.next hb3)
        have B1 := Lib.hid (bthen B0.out hb3)
        clear hb3 F0 B0
        have F0 := F1
        have B0 := B1
        clear F1 B1
        have l3 : 0 ≤ v / 128 % 32 := by omega
        have r3 : v / 128 % 32 < 32 := by omega
        generalize v / 128 % 32 = p3 at *
        go_wp2_with fail
        refine (part_lit _ 25 7 33554432 128 pw25 pw7 v0 v1 (by omega) (by omega) (by omega) (by omega) _).mono ?_
        rintro e u4 ⟨rfl, hb4⟩
        have F1 := Lib.hid (F0.out.next hb4)
        have B1 := Lib.hid (bthen B0.out hb4)
        clear hb4 F0 B0
        have F0 := F1
        have B0 := B1
        clear F1 B1
        have l4 : 0 ≤ v / 33554432 % 128 := by omega
        have r4 : v / 33554432 % 128 < 128 := by omega
        generalize v / 33554432 % 128 = p4 at *
        go_wp2_with fail
        refine (below_any _ 12 2048 (by decide +kernel) (by omega) (by omega) (by omega) (by omega) (by omega) (by omega) _).mono ?_
        rintro e w' ⟨rfl, rfl⟩
        obtain ⟨i0, i1⟩ := sg_in (p := p3 + 32 * p4) (h := 2048) (by omega) (by omega)
        generalize M.sg (p3 + 32 * p4) 2048 = i at *
        obtain ⟨e0, e1, e2, e3, e4, ef, eb⟩ := F0.out
        have f0 := ef 0
        have f1 := ef 1
        have f2 := ef 2
        have f3 := ef 3
        have f4 := ef 4
        clear ef
        go_wp2_with fail
        clear e0 e1 e2 e3 e4 f0 f1 f2 f3 f4 eb
        have F1 := Lib.hid (F0.out.set4 i)
        have B1 := Lib.hid (B0.out.setCell (p := ⟨wr.heap.size, 4, none⟩) (Nat.le_refl _) (.int .i64 i))
        clear F0 B0
        have F0 := F1
        have B0 := B1
        clear F1 B1
        have Z0 : wr.heap.size < _ := F0.out.2.2.2.2.2.2
        by_cases hy : M.may k 0 p1 p2 i = true
        · by_cases hw : M.word k 0 p1 p2 i = v
          · have hw' : (M.word k 0 p1 p2 i == v) = true := by simp [hw]
            have hok := Lib.hid (show M.okAt v k = true by rw [HK.out.1, hy, hw]; simp)
            refine (rword_yes k k1 hlt 0 p1 p2 i _ hy).mono ?_
            rintro e w3 ⟨rfl, hb4⟩
            have F1 := Lib.hid (F0.out.next hb4)
            have BW := Lib.hid (bthen B0.out hb4)
            clear hb4 F0 B0
            have BT := Lib.hid (HB.out.trans (BW.out.mono (by have := HB.out.size; simp at this; omega)))
            obtain ⟨⟨y0, y1, y2, y3, y4⟩, yf⟩ := zero_cells BT.out
            have x0 := yf 0
            have x1 := yf 1
            have x2 := yf 2
            have x3 := yf 3
            have x4 := yf 4
            clear yf
            obtain ⟨g0, g1, g2, g3, g4, gf, gb⟩ := F1.out
            clear gf
            have hz : w.heap.size + 1 ≤ w3.heap.size := by have := BT.out.size; simpa using this
            clear hw Z0
            go_wp2_with fail
            refine bodyPost_ret (v := .tuple #[.agg #[.int .i64 k, .int .i64 0, .int .i64 p1, .int .i64 p2, .int .i64 i], .int .i64 0]) (by simp [results, Tryd.results27, go_sem, *]) rfl ⟨.inl ⟨k, k1, hlt, hok.out, ?_⟩, ?_⟩
            · obtain ⟨t1, t2, t3, t4⟩ := HK.out.2 hok.out
              rw [t1, t2, t3, t4]
            · exact (((((from_start BT.out).setCell (Nat.le_refl _) _).setCell (Nat.le_refl _) _).setCell (Nat.le_refl _) _).setCell (Nat.le_refl _) _).setCell (Nat.le_refl _) _
          · have hw' : (M.word k 0 p1 p2 i == v) = false := by simp [hw]
            have hok := Lib.hid (show M.okAt v k = false by rw [HK.out.1]; simp [hw])
            refine (rword_yes k k1 hlt 0 p1 p2 i _ hy).mono ?_
            rintro e w3 ⟨rfl, hb4⟩
            have F1 := Lib.hid (F0.out.next hb4)
            have BW := Lib.hid (bthen B0.out hb4)
            clear hb4 F0 B0
            clear hw F1 Z0
            go_wp2_with fail
            go_roundw
            case rel => exact rel_next k1 hlt hno'.out hok.out HB.out BW.out
            case measure => simp [intOf]; omega
        · have hy' : M.may k 0 p1 p2 i = false := by simpa using hy
          have hok := Lib.hid (show M.okAt v k = false by rw [HK.out.1, hy']; rfl)
          clear hy
          refine (rword_no k k1 hlt 0 p1 p2 i _ hy').mono ?_
          rintro e w3 ⟨rfl, hb4⟩
          have F1 := Lib.hid (F0.out.next hb4)
          have BW := Lib.hid (bthen B0.out hb4)
          clear hb4 F0 B0
          clear F1 Z0
          go_wp2_with fail
          go_roundw
          case rel => exact rel_next k1 hlt hno'.out hok.out HB.out BW.out
          case measure => simp [intOf]; omega
      · have HF0 := fun W => form_any k k1 hlt W
        rw [e, show letter 4 = 66 from rfl] at HF0
        have HF := Lib.hid HF0
        clear HF0
        have HK := Lib.hid (knows_4 (v := v) e)
        clear e
        go_wp2_with fail
        refine (HF.out _).mono ?_
        rintro e w' ⟨rfl, rfl⟩
        go_wp2_with fail
        have F0 := Lib.hid (Five.new wr (k : Int) 0 0 0 0)
        have B0 := Lib.hid (balloc (Below.refl wr.heap.size wr) (.cells #[.int .i64 k, .int .i64 0, .int .i64 0, .int .i64 0, .int .i64 0] 35))
        refine (part_lit _ 15 5 32768 32 pw15 pw5 v0 v1 (by omega) (by omega) (by omega) (by omega) _).mono ?_
        rintro e u1 ⟨rfl, hb1⟩
        have F1 := Lib.hid (F0.out.next hb1)
        have B1 := Lib.hid (bthen B0.out hb1)
        clear hb1 F0 B0
        have F0 := F1
        have B0 := B1
        clear F1 B1
        have l1 : 0 ≤ v / 32768 % 32 := by omega
        have r1 : v / 32768 % 32 < 32 := by omega
        generalize v / 32768 % 32 = p1 at *
        obtain ⟨e0, e1, e2, e3, e4, ef, eb⟩ := F0.out
        have f0 := ef 0
        have f1 := ef 1
        have f2 := ef 2
        have f3 := ef 3
        have f4 := ef 4
        clear ef
        go_wp2_with fail
        clear e0 e1 e2 e3 e4 f0 f1 f2 f3 f4 eb
        have F1 := Lib.hid (F0.out.set2 p1)
        have B1 := Lib.hid (B0.out.setCell (p := ⟨wr.heap.size, 2, none⟩) (Nat.le_refl _) (.int .i64 p1))
        clear F0 B0
        have F0 := F1
        have B0 := B1
        clear F1 B1
        refine (part_lit _ 20 5 1048576 32 pw20 pw5 v0 v1 (by omega) (by omega) (by omega) (by omega) _).mono ?_
        rintro e u2 ⟨rfl, hb2⟩
        have F1 := Lib.hid (F0.out.next hb2)
        have B1 := Lib.hid (bthen B0.out hb2)
        clear hb2 F0 B0
        have F0 := F1
        have B0 := B1
        clear F1 B1
        have l2 : 0 ≤ v / 1048576 % 32 := by omega
        have r2 : v / 1048576 % 32 < 32 := by omega
        generalize v / 1048576 % 32 = p2 at *
        obtain ⟨e0, e1, e2, e3, e4, ef, eb⟩ := F0.out
        have f0 := ef 0
        have f1 := ef 1
        have f2 := ef 2
        have f3 := ef 3
        have f4 := ef 4
        clear ef
        go_wp2_with fail
        clear e0 e1 e2 e3 e4 f0 f1 f2 f3 f4 eb
        have F1 := Lib.hid (F0.out.set3 p2)
        have B1 := Lib.hid (B0.out.setCell (p := ⟨wr.heap.size, 3, none⟩) (Nat.le_refl _) (.int .i64 p2))
        clear F0 B0
        have F0 := F1
        have B0 := B1
        clear F1 B1
        refine (part_lit _ 8 4 256 16 pw8 pw4 v0 v1 (by omega) (by omega) (by omega) (by omega) _).mono ?_
        rintro e u3 ⟨rfl, hb3⟩
        have F1 := Lib.hid (F0.out.next hb3)
        have B1 := Lib.hid (bthen B0.out hb3)
        clear hb3 F0 B0
        have F0 := F1
        have B0 := B1
        clear F1 B1
        have l3 : 0 ≤ v / 256 % 16 := by omega
        have r3 : v / 256 % 16 < 16 := by omega
        generalize v / 256 % 16 = p3 at *
        go_wp2_with fail
        refine (part_lit _ 25 6 33554432 64 pw25 pw6 v0 v1 (by omega) (by omega) (by omega) (by omega) _).mono ?_
        rintro e u4 ⟨rfl, hb4⟩
        have F1 := Lib.hid (F0.out.next hb4)
        have B1 := Lib.hid (bthen B0.out hb4)
        clear hb4 F0 B0
        have F0 := F1
        have B0 := B1
        clear F1 B1
        have l4 : 0 ≤ v / 33554432 % 64 := by omega
        have r4 : v / 33554432 % 64 < 64 := by omega
        generalize v / 33554432 % 64 = p4 at *
        go_wp2_with fail
        refine (part_lit _ 7 1 128 2 pw7 pw1 v0 v1 (by omega) (by omega) (by omega) (by omega) _).mono ?_
        rintro e u5 ⟨rfl, hb5⟩
        have F1 := Lib.hid (F0.out.next hb5)
        have B1 := Lib.hid (bthen B0.out hb5)
        clear hb5 F0 B0
        have F0 := F1
        have B0 := B1
        clear F1 B1
        have l5 : 0 ≤ v / 128 % 2 := by omega
        have r5 : v / 128 % 2 < 2 := by omega
        generalize v / 128 % 2 = p5 at *
        go_wp2_with fail
        refine (part_lit _ 31 1 2147483648 2 pw31 pw1 v0 v1 (by omega) (by omega) (by omega) (by omega) _).mono ?_
        rintro e u6 ⟨rfl, hb6⟩
        have F1 := Lib.hid (F0.out.next hb6)
        have B1 := Lib.hid (bthen B0.out hb6)
        clear hb6 F0 B0
        have F0 := F1
        have B0 := B1
        clear F1 B1
        have l6 : 0 ≤ v / 2147483648 % 2 := by omega
        have r6 : v / 2147483648 % 2 < 2 := by omega
        generalize v / 2147483648 % 2 = p6 at *
        go_wp2_with fail
        refine (below_any _ 13 4096 (by decide +kernel) (by omega) (by omega) (by omega) (by omega) (by omega) (by omega) _).mono ?_
        rintro e w' ⟨rfl, rfl⟩
        obtain ⟨i0, i1⟩ := sg_in (p := 2 * p3 + 32 * p4 + 2048 * p5 + 4096 * p6) (h := 4096) (by omega) (by omega)
        generalize M.sg (2 * p3 + 32 * p4 + 2048 * p5 + 4096 * p6) 4096 = i at *
        obtain ⟨e0, e1, e2, e3, e4, ef, eb⟩ := F0.out
        have f0 := ef 0
        have f1 := ef 1
        have f2 := ef 2
        have f3 := ef 3
        have f4 := ef 4
        clear ef
        go_wp2_with fail
        clear e0 e1 e2 e3 e4 f0 f1 f2 f3 f4 eb
        have F1 := Lib.hid (F0.out.set4 i)
        have B1 := Lib.hid (B0.out.setCell (p := ⟨wr.heap.size, 4, none⟩) (Nat.le_refl _) (.int .i64 i))
        clear F0 B0
        have F0 := F1
        have B0 := B1
        clear F1 B1
        have Z0 : wr.heap.size < _ := F0.out.2.2.2.2.2.2
        by_cases hy : M.may k 0 p1 p2 i = true
        · by_cases hw : M.word k 0 p1 p2 i = v
          · have hw' : (M.word k 0 p1 p2 i == v) = true := by simp [hw]
            have hok := Lib.hid (show M.okAt v k = true by rw [HK.out.1, hy, hw]; simp)
            refine (rword_yes k k1 hlt 0 p1 p2 i _ hy).mono ?_
            rintro e w3 ⟨rfl, hb4⟩
            have F1 := Lib.hid (F0.out.next hb4)
            have BW := Lib.hid (bthen B0.out hb4)
            clear hb4 F0 B0
            have BT := Lib.hid (HB.out.trans (BW.out.mono (by have := HB.out.size; simp at this; omega)))
            obtain ⟨⟨y0, y1, y2, y3, y4⟩, yf⟩ := zero_cells BT.out
            have x0 := yf 0
            have x1 := yf 1
            have x2 := yf 2
            have x3 := yf 3
            have x4 := yf 4
            clear yf
            obtain ⟨g0, g1, g2, g3, g4, gf, gb⟩ := F1.out
            clear gf
            have hz : w.heap.size + 1 ≤ w3.heap.size := by have := BT.out.size; simpa using this
            clear hw Z0
            go_wp2_with fail
            refine bodyPost_ret (v := .tuple #[.agg #[.int .i64 k, .int .i64 0, .int .i64 p1, .int .i64 p2, .int .i64 i], .int .i64 0]) (by simp [results, Tryd.results27, go_sem, *]) rfl ⟨.inl ⟨k, k1, hlt, hok.out, ?_⟩, ?_⟩
            · obtain ⟨t1, t2, t3, t4⟩ := HK.out.2 hok.out
              rw [t1, t2, t3, t4]
            · exact (((((from_start BT.out).setCell (Nat.le_refl _) _).setCell (Nat.le_refl _) _).setCell (Nat.le_refl _) _).setCell (Nat.le_refl _) _).setCell (Nat.le_refl _) _
          · have hw' : (M.word k 0 p1 p2 i == v) = false := by simp [hw]
            have hok := Lib.hid (show M.okAt v k = false by rw [HK.out.1]; simp [hw])
            refine (rword_yes k k1 hlt 0 p1 p2 i _ hy).mono ?_
            rintro e w3 ⟨rfl, hb4⟩
            have F1 := Lib.hid (F0.out.next hb4)
            have BW := Lib.hid (bthen B0.out hb4)
            clear hb4 F0 B0
            clear hw F1 Z0
            go_wp2_with fail
            go_roundw
            case rel => exact rel_next k1 hlt hno'.out hok.out HB.out BW.out
            case measure => simp [intOf]; omega
        · have hy' : M.may k 0 p1 p2 i = false := by simpa using hy
          have hok := Lib.hid (show M.okAt v k = false by rw [HK.out.1, hy']; rfl)
          clear hy
          refine (rword_no k k1 hlt 0 p1 p2 i _ hy').mono ?_
          rintro e w3 ⟨rfl, hb4⟩
          have F1 := Lib.hid (F0.out.next hb4)
          have BW := Lib.hid (bthen B0.out hb4)
          clear hb4 F0 B0
          clear F1 Z0
          go_wp2_with fail
          go_roundw
          case rel => exact rel_next k1 hlt hno'.out hok.out HB.out BW.out
          case measure => simp [intOf]; omega
      · have HF0 := fun W => form_any k k1 hlt W
        rw [e, show letter 5 = 85 from rfl] at HF0
        have HF := Lib.hid HF0
        clear HF0
        have HK := Lib.hid (knows_5 (v := v) e)
        clear e
        go_wp2_with fail
        refine (HF.out _).mono ?_
        rintro e w' ⟨rfl, rfl⟩
        go_wp2_with fail
        have F0 := Lib.hid (Five.new wr (k : Int) 0 0 0 0)
        have B0 := Lib.hid (balloc (Below.refl wr.heap.size wr) (.cells #[.int .i64 k, .int .i64 0, .int .i64 0, .int .i64 0, .int .i64 0] 35))
        refine (part_lit _ 7 5 128 32 pw7 pw5 v0 v1 (by omega) (by omega) (by omega) (by omega) _).mono ?_
        rintro e u1 ⟨rfl, hb1⟩
        have F1 := Lib.hid (F0.out.next hb1)
        have B1 := Lib.hid (bthen B0.out hb1)
        clear hb1 F0 B0
        have F0 := F1
        have B0 := B1
        clear F1 B1
        have l1 : 0 ≤ v / 128 % 32 := by omega
        have r1 : v / 128 % 32 < 32 := by omega
        generalize v / 128 % 32 = p1 at *
        obtain ⟨e0, e1, e2, e3, e4, ef, eb⟩ := F0.out
        have f0 := ef 0
        have f1 := ef 1
        have f2 := ef 2
        have f3 := ef 3
        have f4 := ef 4
        clear ef
        go_wp2_with fail
        clear e0 e1 e2 e3 e4 f0 f1 f2 f3 f4 eb
        have F1 := Lib.hid (F0.out.set1 p1)
        have B1 := Lib.hid (B0.out.setCell (p := ⟨wr.heap.size, 1, none⟩) (Nat.le_refl _) (.int .i64 p1))
        clear F0 B0
        have F0 := F1
        have B0 := B1
        clear F1 B1
        refine (part_lit _ 12 20 4096 1048576 pw12 pw20 v0 v1 (by omega) (by omega) (by omega) (by omega) _).mono ?_
        rintro e u2 ⟨rfl, hb2⟩
        have F1 := Lib.hid (F0.out.next hb2)
        have B1 := Lib.hid (bthen B0.out hb2)
        clear hb2 F0 B0
        have F0 := F1
        have B0 := B1
        clear F1 B1
        have l2 : 0 ≤ v / 4096 % 1048576 := by omega
        have r2 : v / 4096 % 1048576 < 1048576 := by omega
        generalize v / 4096 % 1048576 = p2 at *
        go_wp2_with fail
        refine (below_any _ 20 524288 (by decide +kernel) (by omega) (by omega) (by omega) (by omega) (by omega) (by omega) _).mono ?_
        rintro e w' ⟨rfl, rfl⟩
        obtain ⟨i0, i1⟩ := sg_in (p := p2) (h := 524288) (by omega) (by omega)
        generalize M.sg (p2) 524288 = i at *
        obtain ⟨e0, e1, e2, e3, e4, ef, eb⟩ := F0.out
        have f0 := ef 0
        have f1 := ef 1
        have f2 := ef 2
        have f3 := ef 3
        have f4 := ef 4
        clear ef
        go_wp2_with fail
        clear e0 e1 e2 e3 e4 f0 f1 f2 f3 f4 eb
        have F1 := Lib.hid (F0.out.set4 (i * 4096))
        have B1 := Lib.hid (B0.out.setCell (p := ⟨wr.heap.size, 4, none⟩) (Nat.le_refl _) (.int .i64 (i * 4096)))
        clear F0 B0
        have F0 := F1
        have B0 := B1
        clear F1 B1
        have Z0 : wr.heap.size < _ := F0.out.2.2.2.2.2.2
        by_cases hy : M.may k p1 0 0 (i * 4096) = true
        · by_cases hw : M.word k p1 0 0 (i * 4096) = v
          · have hw' : (M.word k p1 0 0 (i * 4096) == v) = true := by simp [hw]
            have hok := Lib.hid (show M.okAt v k = true by rw [HK.out.1, hy, hw]; simp)
            refine (rword_yes k k1 hlt p1 0 0 (i * 4096) _ hy).mono ?_
            rintro e w3 ⟨rfl, hb4⟩
            have F1 := Lib.hid (F0.out.next hb4)
            have BW := Lib.hid (bthen B0.out hb4)
            clear hb4 F0 B0
            have BT := Lib.hid (HB.out.trans (BW.out.mono (by have := HB.out.size; simp at this; omega)))
            obtain ⟨⟨y0, y1, y2, y3, y4⟩, yf⟩ := zero_cells BT.out
            have x0 := yf 0
            have x1 := yf 1
            have x2 := yf 2
            have x3 := yf 3
            have x4 := yf 4
            clear yf
            obtain ⟨g0, g1, g2, g3, g4, gf, gb⟩ := F1.out
            clear gf
            have hz : w.heap.size + 1 ≤ w3.heap.size := by have := BT.out.size; simpa using this
            clear hw Z0
            go_wp2_with fail
            refine bodyPost_ret (v := .tuple #[.agg #[.int .i64 k, .int .i64 p1, .int .i64 0, .int .i64 0, .int .i64 (i * 4096)], .int .i64 0]) (by simp [results, Tryd.results27, go_sem, *]) rfl ⟨.inl ⟨k, k1, hlt, hok.out, ?_⟩, ?_⟩
            · obtain ⟨t1, t2, t3, t4⟩ := HK.out.2 hok.out
              rw [t1, t2, t3, t4]
            · exact (((((from_start BT.out).setCell (Nat.le_refl _) _).setCell (Nat.le_refl _) _).setCell (Nat.le_refl _) _).setCell (Nat.le_refl _) _).setCell (Nat.le_refl _) _
          · have hw' : (M.word k p1 0 0 (i * 4096) == v) = false := by simp [hw]
            have hok := Lib.hid (show M.okAt v k = false by rw [HK.out.1]; simp [hw])
            refine (rword_yes k k1 hlt p1 0 0 (i * 4096) _ hy).mono ?_
            rintro e w3 ⟨rfl, hb4⟩
            have F1 := Lib.hid (F0.out.next hb4)
            have BW := Lib.hid (bthen B0.out hb4)
            clear hb4 F0 B0
            clear hw F1 Z0
            go_wp2_with fail
            go_roundw
            case rel => exact rel_next k1 hlt hno'.out hok.out HB.out BW.out
            case measure => simp [intOf]; omega
        · have hy' : M.may k p1 0 0 (i * 4096) = false := by simpa using hy
          have hok := Lib.hid (show M.okAt v k = false by rw [HK.out.1, hy']; rfl)
          clear hy
          refine (rword_no k k1 hlt p1 0 0 (i * 4096) _ hy').mono ?_
          rintro e w3 ⟨rfl, hb4⟩
          have F1 := Lib.hid (F0.out.next hb4)
          have BW := Lib.hid (bthen B0.out hb4)
          clear hb4 F0 B0
          clear F1 Z0
          go_wp2_with fail
          go_roundw
          case rel => exact rel_next k1 hlt hno'.out hok.out HB.out BW.out
          case measure => simp [intOf]; omega
      · have HF0 := fun W => form_any k k1 hlt W
        rw [e, show letter 6 = 74 from rfl] at HF0
        have HF := Lib.hid HF0
        clear HF0
        have HK := Lib.hid (knows_6 (v := v) e)
        clear e
        go_wp2_with fail
        refine (HF.out _).mono ?_
        rintro e w' ⟨rfl, rfl⟩
        go_wp2_with fail
        have F0 := Lib.hid (Five.new wr (k : Int) 0 0 0 0)
        have B0 := Lib.hid (balloc (Below.refl wr.heap.size wr) (.cells #[.int .i64 k, .int .i64 0, .int .i64 0, .int .i64 0, .int .i64 0] 35))
        refine (part_lit _ 7 5 128 32 pw7 pw5 v0 v1 (by omega) (by omega) (by omega) (by omega) _).mono ?_
        rintro e u1 ⟨rfl, hb1⟩
        have F1 := Lib.hid (F0.out.next hb1)
        have B1 := Lib.hid (bthen B0.out hb1)
        clear hb1 F0 B0
        have F0 := F1
        have B0 := B1
        clear F1 B1
        have l1 : 0 ≤ v / 128 % 32 := by omega
        have r1 : v / 128 % 32 < 32 := by omega
        generalize v / 128 % 32 = p1 at *
        obtain ⟨e0, e1, e2, e3, e4, ef, eb⟩ := F0.out
        have f0 := ef 0
        have f1 := ef 1
        have f2 := ef 2
        have f3 := ef 3
        have f4 := ef 4
        clear ef
        go_wp2_with fail
        clear e0 e1 e2 e3 e4 f0 f1 f2 f3 f4 eb
        have F1 := Lib.hid (F0.out.set1 p1)
        have B1 := Lib.hid (B0.out.setCell (p := ⟨wr.heap.size, 1, none⟩) (Nat.le_refl _) (.int .i64 p1))
        clear F0 B0
        have F0 := F1
        have B0 := B1
        clear F1 B1
        refine (part_lit _ 21 10 2097152 1024 pw21 pw10 v0 v1 (by omega) (by omega) (by omega) (by omega) _).mono ?_
        rintro e u2 ⟨rfl, hb2⟩
        have F1 := Lib.hid (F0.out.next hb2)
        have B1 := Lib.hid (bthen B0.out hb2)
        clear hb2 F0 B0
        have F0 := F1
        have B0 := B1
        clear F1 B1
        have l2 : 0 ≤ v / 2097152 % 1024 := by omega
        have r2 : v / 2097152 % 1024 < 1024 := by omega
        generalize v / 2097152 % 1024 = p2 at *
        go_wp2_with fail
        refine (part_lit _ 20 1 1048576 2 pw20 pw1 v0 v1 (by omega) (by omega) (by omega) (by omega) _).mono ?_
        rintro e u3 ⟨rfl, hb3⟩
        have F1 := Lib.hid (F0.out.next hb3)
        have B1 := Lib.hid (bthen B0.out hb3)
        clear hb3 F0 B0
        have F0 := F1
        have B0 := B1
        clear F1 B1
        have l3 : 0 ≤ v / 1048576 % 2 := by omega
        have r3 : v / 1048576 % 2 < 2 := by omega
        generalize v / 1048576 % 2 = p3 at *
        go_wp2_with fail
        refine (part_lit _ 12 8 4096 256 pw12 pw8 v0 v1 (by omega) (by omega) (by omega) (by omega) _).mono ?_
        rintro e u4 ⟨rfl, hb4⟩
        have F1 := Lib.hid (F0.out.next hb4)
        have B1 := Lib.hid (bthen B0.out hb4)
        clear hb4 F0 B0
        have F0 := F1
        have B0 := B1
        clear F1 B1
        have l4 : 0 ≤ v / 4096 % 256 := by omega
        have r4 : v / 4096 % 256 < 256 := by omega
        generalize v / 4096 % 256 = p4 at *
        go_wp2_with fail
        refine (part_lit _ 31 1 2147483648 2 pw31 pw1 v0 v1 (by omega) (by omega) (by omega) (by omega) _).mono ?_
        rintro e u5 ⟨rfl, hb5⟩
        have F1 := Lib.hid (F0.out.next hb5)
        have B1 := Lib.hid (bthen B0.out hb5)
        clear hb5 F0 B0
        have F0 := F1
        have B0 := B1
        clear F1 B1
        have l5 : 0 ≤ v / 2147483648 % 2 := by omega
        have r5 : v / 2147483648 % 2 < 2 := by omega
        generalize v / 2147483648 % 2 = p5 at *
        go_wp2_with fail
        refine (below_any _ 21 1048576 (by decide +kernel) (by omega) (by omega) (by omega) (by omega) (by omega) (by omega) _).mono ?_
        rintro e w' ⟨rfl, rfl⟩
        obtain ⟨i0, i1⟩ := sg_in (p := 2 * p2 + 2048 * p3 + 4096 * p4 + 1048576 * p5) (h := 1048576) (by omega) (by omega)
        generalize M.sg (2 * p2 + 2048 * p3 + 4096 * p4 + 1048576 * p5) 1048576 = i at *
        obtain ⟨e0, e1, e2, e3, e4, ef, eb⟩ := F0.out
        have f0 := ef 0
        have f1 := ef 1
        have f2 := ef 2
        have f3 := ef 3
        have f4 := ef 4
        clear ef
        go_wp2_with fail
        clear e0 e1 e2 e3 e4 f0 f1 f2 f3 f4 eb
        have F1 := Lib.hid (F0.out.set4 i)
        have B1 := Lib.hid (B0.out.setCell (p := ⟨wr.heap.size, 4, none⟩) (Nat.le_refl _) (.int .i64 i))
        clear F0 B0
        have F0 := F1
        have B0 := B1
        clear F1 B1
        have Z0 : wr.heap.size < _ := F0.out.2.2.2.2.2.2
        by_cases hy : M.may k p1 0 0 i = true
        · by_cases hw : M.word k p1 0 0 i = v
          · have hw' : (M.word k p1 0 0 i == v) = true := by simp [hw]
            have hok := Lib.hid (show M.okAt v k = true by rw [HK.out.1, hy, hw]; simp)
            refine (rword_yes k k1 hlt p1 0 0 i _ hy).mono ?_
            rintro e w3 ⟨rfl, hb4⟩
            have F1 := Lib.hid (F0.out.next hb4)
            have BW := Lib.hid (bthen B0.out hb4)
            clear hb4 F0 B0
            have BT := Lib.hid (HB.out.trans (BW.out.mono (by have := HB.out.size; simp at this; omega)))
            obtain ⟨⟨y0, y1, y2, y3, y4⟩, yf⟩ := zero_cells BT.out
            have x0 := yf 0
            have x1 := yf 1
            have x2 := yf 2
            have x3 := yf 3
            have x4 := yf 4
            clear yf
            obtain ⟨g0, g1, g2, g3, g4, gf, gb⟩ := F1.out
            clear gf
            have hz : w.heap.size + 1 ≤ w3.heap.size := by have := BT.out.size; simpa using this
            clear hw Z0
            go_wp2_with fail
            refine bodyPost_ret (v := .tuple #[.agg #[.int .i64 k, .int .i64 p1, .int .i64 0, .int .i64 0, .int .i64 i], .int .i64 0]) (by simp [results, Tryd.results27, go_sem, *]) rfl ⟨.inl ⟨k, k1, hlt, hok.out, ?_⟩, ?_⟩
            · obtain ⟨t1, t2, t3, t4⟩ := HK.out.2 hok.out
              rw [t1, t2, t3, t4]
            · exact (((((from_start BT.out).setCell (Nat.le_refl _) _).setCell (Nat.le_refl _) _).setCell (Nat.le_refl _) _).setCell (Nat.le_refl _) _).setCell (Nat.le_refl _) _
          · have hw' : (M.word k p1 0 0 i == v) = false := by simp [hw]
            have hok := Lib.hid (show M.okAt v k = false by rw [HK.out.1]; simp [hw])
            refine (rword_yes k k1 hlt p1 0 0 i _ hy).mono ?_
            rintro e w3 ⟨rfl, hb4⟩
            have F1 := Lib.hid (F0.out.next hb4)
            have BW := Lib.hid (bthen B0.out hb4)
            clear hb4 F0 B0
            clear hw F1 Z0
            go_wp2_with fail
            go_roundw
            case rel => exact rel_next k1 hlt hno'.out hok.out HB.out BW.out
            case measure => simp [intOf]; omega
        · have hy' : M.may k p1 0 0 i = false := by simpa using hy
          have hok := Lib.hid (show M.okAt v k = false by rw [HK.out.1, hy']; rfl)
          clear hy
          refine (rword_no k k1 hlt p1 0 0 i _ hy').mono ?_
          rintro e w3 ⟨rfl, hb4⟩
          have F1 := Lib.hid (F0.out.next hb4)
          have BW := Lib.hid (bthen B0.out hb4)
          clear hb4 F0 B0
          clear F1 Z0
          go_wp2_with fail
          go_roundw
          case rel => exact rel_next k1 hlt hno'.out hok.out HB.out BW.out
          case measure => simp [intOf]; omega
      · have HF0 := fun W => form_any k k1 hlt W
        rw [e, show letter 7 = 69 from rfl] at HF0
        have HF := Lib.hid HF0
        clear HF0
        have HK := Lib.hid (knows_7 (v := v) e)
        clear e
        go_wp2_with fail
        refine (HF.out _).mono ?_
        rintro e w' ⟨rfl, rfl⟩
        go_wp2_with fail
        have F0 := Lib.hid (Five.new wr (k : Int) 0 0 0 0)
        have B0 := Lib.hid (balloc (Below.refl wr.heap.size wr) (.cells #[.int .i64 k, .int .i64 0, .int .i64 0, .int .i64 0, .int .i64 0] 35))
        have Z0 : wr.heap.size < _ := F0.out.2.2.2.2.2.2
        by_cases hy : M.may k 0 0 0 0 = true
        · by_cases hw : M.word k 0 0 0 0 = v
          · have hw' : (M.word k 0 0 0 0 == v) = true := by simp [hw]
            have hok := Lib.hid (show M.okAt v k = true by rw [HK.out.1, hy, hw]; simp)
            refine (rword_yes k k1 hlt 0 0 0 0 _ hy).mono ?_
            rintro e w3 ⟨rfl, hb4⟩
            have F1 := Lib.hid (F0.out.next hb4)
            have BW := Lib.hid (bthen B0.out hb4)
            clear hb4 F0 B0
            have BT := Lib.hid (HB.out.trans (BW.out.mono (by have := HB.out.size; simp at this; omega)))
            obtain ⟨⟨y0, y1, y2, y3, y4⟩, yf⟩ := zero_cells BT.out
            have x0 := yf 0
            have x1 := yf 1
            have x2 := yf 2
            have x3 := yf 3
            have x4 := yf 4
            clear yf
            obtain ⟨g0, g1, g2, g3, g4, gf, gb⟩ := F1.out
            clear gf
            have hz : w.heap.size + 1 ≤ w3.heap.size := by have := BT.out.size; simpa using this
            clear hw Z0
            go_wp2_with fail
            refine bodyPost_ret (v := .tuple #[.agg #[.int .i64 k, .int .i64 0, .int .i64 0, .int .i64 0, .int .i64 0], .int .i64 0]) (by simp [results, Tryd.results27, go_sem, *]) rfl ⟨.inl ⟨k, k1, hlt, hok.out, ?_⟩, ?_⟩
            · obtain ⟨t1, t2, t3, t4⟩ := HK.out.2 hok.out
              rw [t1, t2, t3, t4]
            · exact (((((from_start BT.out).setCell (Nat.le_refl _) _).setCell (Nat.le_refl _) _).setCell (Nat.le_refl _) _).setCell (Nat.le_refl _) _).setCell (Nat.le_refl _) _
          · have hw' : (M.word k 0 0 0 0 == v) = false := by simp [hw]
            have hok := Lib.hid (show M.okAt v k = false by rw [HK.out.1]; simp [hw])
            refine (rword_yes k k1 hlt 0 0 0 0 _ hy).mono ?_
            rintro e w3 ⟨rfl, hb4⟩
            have F1 := Lib.hid (F0.out.next hb4)
            have BW := Lib.hid (bthen B0.out hb4)
            clear hb4 F0 B0
            clear hw F1 Z0
            go_wp2_with fail
            go_roundw
            case rel => exact rel_next k1 hlt hno'.out hok.out HB.out BW.out
            case measure => simp [intOf]; omega
        · have hy' : M.may k 0 0 0 0 = false := by simpa using hy
          have hok := Lib.hid (show M.okAt v k = false by rw [HK.out.1, hy']; rfl)
          clear hy
          refine (rword_no k k1 hlt 0 0 0 0 _ hy').mono ?_
          rintro e w3 ⟨rfl, hb4⟩
          have F1 := Lib.hid (F0.out.next hb4)
          have BW := Lib.hid (bthen B0.out hb4)
          clear hb4 F0 B0
          clear F1 Z0
          go_wp2_with fail
          go_roundw
          case rel => exact rel_next k1 hlt hno'.out hok.out HB.out BW.out
          case measure => simp [intOf]; omega
    · have hnlt : decide ((k : Int) ≤ 31) = false := by simp; omega
      obtain rfl : k = 32 := by omega
      obtain ⟨⟨e0, e1, e2, e3, e4⟩, ef⟩ := zero_cells hb
      have f0 := ef 0
      have f1 := ef 1
      have f2 := ef 2
      have f3 := ef 3
      have f4 := ef 4
      clear ef
      have HB := Lib.hid hb
      clear hb
      have hz : w.heap.size + 1 ≤ wr.heap.size := by have := HB.out.size; simpa using this
      go_wp2_with fail
      refine bodyPost_ret (v := .tuple #[.agg #[.int .i64 0, .int .i64 0, .int .i64 0, .int .i64 0, .int .i64 0], .int .i64 5]) (by simp [results, Tryd.results27, go_sem, *]) rfl ⟨.inr ⟨fun k h1 h2 => hno'.out k h1 h2, rfl⟩, ?_⟩
      exact (((((from_start HB.out).setCell (Nat.le_refl _) _).setCell (Nat.le_refl _) _).setCell (Nat.le_refl _) _).setCell (Nat.le_refl _) _).setCell (Nat.le_refl _) _
end Go.Proofs.YtclbkdnihhmglaaDoor.E
