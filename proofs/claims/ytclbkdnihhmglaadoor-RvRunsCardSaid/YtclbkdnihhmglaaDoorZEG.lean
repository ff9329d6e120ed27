/- Walks of Word of the document's answer for layer 1, the forms B, U, J and KEcall: it is the word that the plain facts speak of. -/
import Derived.Test.YtclbkdnihhmglaaDoorZEE
namespace Go.Proofs.YtclbkdnihhmglaaDoor.E
open Go.RowKit

set_option maxRecDepth 100000 in
set_option maxHeartbeats 8000000 in
theorem rword_4 (k : Nat) (k1 : 1 ≤ k) (k2 : k < 32) (e : M.fm k = 4) (rd a b n : Int) (w : World) (hy : M.may k rd a b n = true) :
    Calls Tryd.prog 18 #[.agg #[.int .i64 k, .int .i64 rd, .int .i64 a, .int .i64 b, .int .i64 n]] w fun e w' => e = .returned (.tuple #[.int .u32 (M.word k rd a b n), .int .i64 0]) ∧ Below w.heap.size w w' := by
  obtain ⟨⟨d0, d1⟩, ⟨a0, a1⟩, b0, b1⟩ := M.regs_in k2 hy
  have hw := Lib.hid (show M.word k rd a b n = M.op k + M.f3 k * 4096 + M.f7 k * 33554432 + rd * 128 + a * 32768 + b * 1048576 + M.lay 4 n by rw [← e]; rfl)
  have HM := Lib.hid (fun W => (rmay_in k k1 k2 rd a b n W).mono fun e w' h => (by rw [hy] at h; exact h : e = .returned (.bool true) ∧ Below W.heap.size W w'))
  have HF0 := fun W => form_any k k1 k2 W
  rw [e, show letter 4 = 66 from rfl] at HF0
  have HF := Lib.hid HF0
  clear HF0
  obtain ⟨o0, o1⟩ := M.op_in k2
  obtain ⟨g0, g1⟩ := M.f3_in k2
  obtain ⟨s0, s1⟩ := M.f7_in k2
  have n7 : M.f7 k = 0 := M.f7_no k2 (by omega)
  obtain ⟨x, hx, x0, x1, HX⟩ : ∃ x : Int, x = M.op k + 4096 * M.f3 k + 33554432 * M.f7 k ∧ 0 ≤ x ∧ x < 28800 ∧ ∀ W, Calls Tryd.prog 33 #[.int .i64 k] W fun e w' => e = .returned (.int .u32 x) ∧ Below W.heap.size W w' :=
    ⟨_, rfl, by omega, by omega, fun W => fixed_any k k1 k2 W⟩
  have hz := Lib.hid (M.may_parts hy)
  have he := Lib.hid e
  have hX := Lib.hid hx
  have HX' := Lib.hid HX
  have N7 := Lib.hid n7
  clear n7
  have m0 : 0 ≤ n % 4294967296 := by omega
  have m1 : n % 4294967296 < 4294967296 := by omega
  clear hy e hx HX o0 o1 g0 g1 s0 s1
  go_enter Tryd.func18, Tryd.ntmps18
  go_wp2_with fail
  refine (HM.out _).mono ?_
  rintro e w1 ⟨rfl, hb1⟩
  have c0 : w1.cell? ⟨w.heap.size, 0, none⟩ = some (.int .i64 k) := (hb1.cell (p := ⟨w.heap.size, 0, none⟩) (by simp)).trans (by go_simp)
  have c1 : w1.cell? ⟨w.heap.size, 1, none⟩ = some (.int .i64 rd) := (hb1.cell (p := ⟨w.heap.size, 1, none⟩) (by simp)).trans (by go_simp)
  have c2 : w1.cell? ⟨w.heap.size, 2, none⟩ = some (.int .i64 a) := (hb1.cell (p := ⟨w.heap.size, 2, none⟩) (by simp)).trans (by go_simp)
  have c3 : w1.cell? ⟨w.heap.size, 3, none⟩ = some (.int .i64 b) := (hb1.cell (p := ⟨w.heap.size, 3, none⟩) (by simp)).trans (by go_simp)
  have c4 : w1.cell? ⟨w.heap.size, 4, none⟩ = some (.int .i64 n) := (hb1.cell (p := ⟨w.heap.size, 4, none⟩) (by simp)).trans (by go_simp)
  have z1 : w.heap.size < w1.heap.size := by have := hb1.size; simp at this; omega
  have B1 := Lib.hid (bthen (balloc (Below.refl _ _) _) hb1)
  clear hb1
  go_wp2_with fail
  refine (HF.out _).mono ?_
  rintro e w' ⟨rfl, rfl⟩
  go_wp2_with fail
  refine (HX'.out _).mono ?_
  rintro e w2 ⟨rfl, hb2⟩
  have C1 : w2.cell? ⟨w.heap.size, 1, none⟩ = some (.int .i64 rd) := (hb2.cell (p := ⟨w.heap.size, 1, none⟩) z1).trans c1
  have C2 : w2.cell? ⟨w.heap.size, 2, none⟩ = some (.int .i64 a) := (hb2.cell (p := ⟨w.heap.size, 2, none⟩) z1).trans c2
  have C3 : w2.cell? ⟨w.heap.size, 3, none⟩ = some (.int .i64 b) := (hb2.cell (p := ⟨w.heap.size, 3, none⟩) z1).trans c3
  have C4 : w2.cell? ⟨w.heap.size, 4, none⟩ = some (.int .i64 n) := (hb2.cell (p := ⟨w.heap.size, 4, none⟩) z1).trans c4
  have B2 := Lib.hid (bthen B1.out hb2)
  clear hb2 c0 c1 c2 c3 c4 z1 B1
  go_wp2_with fail
  go_quiet ((go_at_call 34; exact Calls.quiet_of_same (power_lt 15 32768 pw15 (by omega) (by omega) _)))
  have B3 := Lib.hid (bthen B2.out (drewN_below _ nq))
  clear B2
  have D1 : (w2.drewN nq).cell? ⟨w.heap.size, 1, none⟩ = some (.int .i64 rd) := C1
  have D2 : (w2.drewN nq).cell? ⟨w.heap.size, 2, none⟩ = some (.int .i64 a) := C2
  have D3 : (w2.drewN nq).cell? ⟨w.heap.size, 3, none⟩ = some (.int .i64 b) := C3
  clear C1 C2 C3 C4
  generalize w2.drewN nq = w3 at *
  clear nq w2
  obtain ⟨w2, rfl⟩ : ∃ w2, w2 = w3 := ⟨_, rfl⟩
  have B2 := B3
  have C1 := D1
  have C2 := D2
  have C3 := D3
  have C4 : True := trivial
  clear B3 D1 D2 D3
  go_wp2_with fail
  go_quiet ((go_at_call 34; exact Calls.quiet_of_same (power_lt 20 1048576 pw20 (by omega) (by omega) _)))
  have B3 := Lib.hid (bthen B2.out (drewN_below _ nq))
  clear B2
  have D1 : (w2.drewN nq).cell? ⟨w.heap.size, 1, none⟩ = some (.int .i64 rd) := C1
  have D2 : (w2.drewN nq).cell? ⟨w.heap.size, 2, none⟩ = some (.int .i64 a) := C2
  have D3 : (w2.drewN nq).cell? ⟨w.heap.size, 3, none⟩ = some (.int .i64 b) := C3
  clear C1 C2 C3 C4
  generalize w2.drewN nq = w3 at *
  clear nq w2
  obtain ⟨w2, rfl⟩ : ∃ w2, w2 = w3 := ⟨_, rfl⟩
  have B2 := B3
  have C1 := D1
  have C2 := D2
  have C3 := D3
  have C4 : True := trivial
  clear B3 D1 D2 D3
  go_wp2_with fail
  have S0' : 0 ≤ x + a * 32768 + b * 1048576 ∧ x + a * 32768 + b * 1048576 < 33550464 := by omega
  generalize hS : x + a * 32768 + b * 1048576 = S at *
  obtain ⟨S0, S1⟩ := S0'
  have HS := Lib.hid hS
  generalize hN : n % 4294967296 = N at *
  have HN := Lib.hid hN
  have HR := Lib.hid (And.intro d0 (And.intro d1 (And.intro a0 (And.intro a1 (And.intro b0 (And.intro b1 (And.intro x0 x1)))))))
  clear hS hN d0 d1 a0 a1 b0 b1 x0 x1
  refine (part_lit _ 11 1 2048 2 pw11 pw1 m0 m1 (by omega) (by omega) (by omega) (by omega) _).mono ?_
  rintro e w3 ⟨rfl, hb3⟩
  have B3 := Lib.hid (bthen B2.out hb3)
  clear hb3 B2
  have B2 := B3
  clear B3
  have l0 : 0 ≤ N / 2048 % 2 := by omega
  have u0 : N / 2048 % 2 < 2 := by omega
  generalize hp0 : N / 2048 % 2 = p0 at *
  have P0 := Lib.hid hp0
  clear hp0
  go_wp2_with fail
  refine (power_lit 7 128 pw7 (by omega) (by omega) _).mono ?_
  rintro e w' ⟨rfl, rfl⟩
  go_wp2_with fail
  have T1' : 0 ≤ S + p0 * 128 ∧ S + p0 * 128 < 33550592 := by omega
  generalize hT1 : S + p0 * 128 = T1 at *
  obtain ⟨T1a, T1b⟩ := T1'
  have HT1 := Lib.hid hT1
  have HL1 := Lib.hid (And.intro l0 u0)
  clear hT1 l0 u0
  clear S0 S1
  refine (part_lit _ 1 4 2 16 pw1 pw4 m0 m1 (by omega) (by omega) (by omega) (by omega) _).mono ?_
  rintro e w3 ⟨rfl, hb3⟩
  have B3 := Lib.hid (bthen B2.out hb3)
  clear hb3 B2
  have B2 := B3
  clear B3
  have l1 : 0 ≤ N / 2 % 16 := by omega
  have u1 : N / 2 % 16 < 16 := by omega
  generalize hp1 : N / 2 % 16 = p1 at *
  have P1 := Lib.hid hp1
  clear hp1
  go_wp2_with fail
  refine (power_lit 8 256 pw8 (by omega) (by omega) _).mono ?_
  rintro e w' ⟨rfl, rfl⟩
  go_wp2_with fail
  have T2' : 0 ≤ T1 + p1 * 256 ∧ T1 + p1 * 256 < 33554432 := by omega
  generalize hT2 : T1 + p1 * 256 = T2 at *
  obtain ⟨T2a, T2b⟩ := T2'
  have HT2 := Lib.hid hT2
  have HL2 := Lib.hid (And.intro l1 u1)
  clear hT2 l1 u1
  clear T1a T1b
  refine (part_lit _ 5 6 32 64 pw5 pw6 m0 m1 (by omega) (by omega) (by omega) (by omega) _).mono ?_
  rintro e w3 ⟨rfl, hb3⟩
  have B3 := Lib.hid (bthen B2.out hb3)
  clear hb3 B2
  have B2 := B3
  clear B3
  have l2 : 0 ≤ N / 32 % 64 := by omega
  have u2 : N / 32 % 64 < 64 := by omega
  generalize hp2 : N / 32 % 64 = p2 at *
  have P2 := Lib.hid hp2
  clear hp2
  go_wp2_with fail
  refine (power_lit 25 33554432 pw25 (by omega) (by omega) _).mono ?_
  rintro e w' ⟨rfl, rfl⟩
  go_wp2_with fail
  have T3' : 0 ≤ T2 + p2 * 33554432 ∧ T2 + p2 * 33554432 < 2147483648 := by omega
  generalize hT3 : T2 + p2 * 33554432 = T3 at *
  obtain ⟨T3a, T3b⟩ := T3'
  have HT3 := Lib.hid hT3
  have HL3 := Lib.hid (And.intro l2 u2)
  clear hT3 l2 u2
  clear T2a T2b
  refine (part_lit _ 12 1 4096 2 pw12 pw1 m0 m1 (by omega) (by omega) (by omega) (by omega) _).mono ?_
  rintro e w3 ⟨rfl, hb3⟩
  have B3 := Lib.hid (bthen B2.out hb3)
  clear hb3 B2
  have B2 := B3
  clear B3
  have l3 : 0 ≤ N / 4096 % 2 := by omega
  have u3 : N / 4096 % 2 < 2 := by omega
  generalize hp3 : N / 4096 % 2 = p3 at *
  have P3 := Lib.hid hp3
  clear hp3
  go_wp2_with fail
  refine (power_lit 31 2147483648 pw31 (by omega) (by omega) _).mono ?_
  rintro e w' ⟨rfl, rfl⟩
  go_wp2_with fail
  go_ret2
  refine ⟨ret_two ?_, B2.out⟩
  rw [hw.out]
  have h1 := hX.out
  have h2 := hz.out
  have h3 := N7.out
  have h4 := HN.out
  have h5 := HS.out
  have q1 := HT1.out
  have q2 := HT2.out
  have q3 := HT3.out
  have r0 : p0 = n / 2048 % 2 := by have := P0.out; omega
  have r1 : p1 = n / 2 % 16 := by have := P1.out; omega
  have r2 : p2 = n / 32 % 64 := by have := P2.out; omega
  have r3 : p3 = n / 4096 % 2 := by have := P3.out; omega
  rw [he.out] at h2
  simp [M.reg, M.hasRd, M.hasA, M.hasB] at h2
  simp only [M.lay]
  clear hX hz he hw HM HF HX' B2 m0 m1 HN HS HR
  rw [← r0, ← r1, ← r2, ← r3]
  clear r0 r1 r2 r3 h4
  obtain ⟨h2a, h2b, h2c, _⟩ := h2
  omega
set_option maxRecDepth 100000 in
set_option maxHeartbeats 8000000 in
theorem rword_5 (k : Nat) (k1 : 1 ≤ k) (k2 : k < 32) (e : M.fm k = 5) (rd a b n : Int) (w : World) (hy : M.may k rd a b n = true) :
    Calls Tryd.prog 18 #[.agg #[.int .i64 k, .int .i64 rd, .int .i64 a, .int .i64 b, .int .i64 n]] w fun e w' => e = .returned (.tuple #[.int .u32 (M.word k rd a b n), .int .i64 0]) ∧ Below w.heap.size w w' := by
  obtain ⟨⟨d0, d1⟩, ⟨a0, a1⟩, b0, b1⟩ := M.regs_in k2 hy
  have hw := Lib.hid (show M.word k rd a b n = M.op k + M.f3 k * 4096 + M.f7 k * 33554432 + rd * 128 + a * 32768 + b * 1048576 + M.lay 5 n by rw [← e]; rfl)
  have HM := Lib.hid (fun W => (rmay_in k k1 k2 rd a b n W).mono fun e w' h => (by rw [hy] at h; exact h : e = .returned (.bool true) ∧ Below W.heap.size W w'))
  have HF0 := fun W => form_any k k1 k2 W
  rw [e, show letter 5 = 85 from rfl] at HF0
  have HF := Lib.hid HF0
  clear HF0
  obtain ⟨o0, o1⟩ := M.op_in k2
  obtain ⟨g0, g1⟩ := M.f3_in k2
  obtain ⟨s0, s1⟩ := M.f7_in k2
  have n7 : M.f7 k = 0 := M.f7_no k2 (by omega)
  have n3 : M.f3 k = 0 := M.f3_no k2 (by rw [e]; rfl)
  obtain ⟨x, hx, x0, x1, HX⟩ : ∃ x : Int, x = M.op k + 4096 * M.f3 k + 33554432 * M.f7 k ∧ 0 ≤ x ∧ x < 128 ∧ ∀ W, Calls Tryd.prog 33 #[.int .i64 k] W fun e w' => e = .returned (.int .u32 x) ∧ Below W.heap.size W w' :=
    ⟨_, rfl, by omega, by omega, fun W => fixed_any k k1 k2 W⟩
  have hz := Lib.hid (M.may_parts hy)
  have he := Lib.hid e
  have hX := Lib.hid hx
  have HX' := Lib.hid HX
  have N7 := Lib.hid n7
  have N3 := Lib.hid n3
  clear n7 n3
  have m0 : 0 ≤ n % 4294967296 := by omega
  have m1 : n % 4294967296 < 4294967296 := by omega
  clear hy e hx HX o0 o1 g0 g1 s0 s1
  go_enter Tryd.func18, Tryd.ntmps18
  go_wp2_with fail
  refine (HM.out _).mono ?_
  rintro e w1 ⟨rfl, hb1⟩
  have c0 : w1.cell? ⟨w.heap.size, 0, none⟩ = some (.int .i64 k) := (hb1.cell (p := ⟨w.heap.size, 0, none⟩) (by simp)).trans (by go_simp)
  have c1 : w1.cell? ⟨w.heap.size, 1, none⟩ = some (.int .i64 rd) := (hb1.cell (p := ⟨w.heap.size, 1, none⟩) (by simp)).trans (by go_simp)
  have c2 : w1.cell? ⟨w.heap.size, 2, none⟩ = some (.int .i64 a) := (hb1.cell (p := ⟨w.heap.size, 2, none⟩) (by simp)).trans (by go_simp)
  have c3 : w1.cell? ⟨w.heap.size, 3, none⟩ = some (.int .i64 b) := (hb1.cell (p := ⟨w.heap.size, 3, none⟩) (by simp)).trans (by go_simp)
  have c4 : w1.cell? ⟨w.heap.size, 4, none⟩ = some (.int .i64 n) := (hb1.cell (p := ⟨w.heap.size, 4, none⟩) (by simp)).trans (by go_simp)
  have z1 : w.heap.size < w1.heap.size := by have := hb1.size; simp at this; omega
  have B1 := Lib.hid (bthen (balloc (Below.refl _ _) _) hb1)
  clear hb1
  go_wp2_with fail
  refine (HF.out _).mono ?_
  rintro e w' ⟨rfl, rfl⟩
  go_wp2_with fail
  refine (HX'.out _).mono ?_
  rintro e w2 ⟨rfl, hb2⟩
  have C1 : w2.cell? ⟨w.heap.size, 1, none⟩ = some (.int .i64 rd) := (hb2.cell (p := ⟨w.heap.size, 1, none⟩) z1).trans c1
  have C2 : w2.cell? ⟨w.heap.size, 2, none⟩ = some (.int .i64 a) := (hb2.cell (p := ⟨w.heap.size, 2, none⟩) z1).trans c2
  have C3 : w2.cell? ⟨w.heap.size, 3, none⟩ = some (.int .i64 b) := (hb2.cell (p := ⟨w.heap.size, 3, none⟩) z1).trans c3
  have C4 : w2.cell? ⟨w.heap.size, 4, none⟩ = some (.int .i64 n) := (hb2.cell (p := ⟨w.heap.size, 4, none⟩) z1).trans c4
  have B2 := Lib.hid (bthen B1.out hb2)
  clear hb2 c0 c1 c2 c3 c4 z1 B1
  go_wp2_with fail
  go_quiet ((go_at_call 34; exact Calls.quiet_of_same (power_lt 7 128 pw7 (by omega) (by omega) _)))
  have B3 := Lib.hid (bthen B2.out (drewN_below _ nq))
  clear B2
  have D1 : (w2.drewN nq).cell? ⟨w.heap.size, 1, none⟩ = some (.int .i64 rd) := C1
  have D2 : (w2.drewN nq).cell? ⟨w.heap.size, 2, none⟩ = some (.int .i64 a) := C2
  have D3 : (w2.drewN nq).cell? ⟨w.heap.size, 3, none⟩ = some (.int .i64 b) := C3
  clear C1 C2 C3 C4
  generalize w2.drewN nq = w3 at *
  clear nq w2
  obtain ⟨w2, rfl⟩ : ∃ w2, w2 = w3 := ⟨_, rfl⟩
  have B2 := B3
  have C1 := D1
  have C2 := D2
  have C3 := D3
  have C4 : True := trivial
  clear B3 D1 D2 D3
  go_wp2_with fail
  refine (part_lit _ 12 20 4096 1048576 pw12 pw20 m0 m1 (by omega) (by omega) (by omega) (by omega) _).mono ?_
  rintro e w3 ⟨rfl, hb3⟩
  have B3 := Lib.hid (bthen B2.out hb3)
  clear hb3 B2
  have B2 := B3
  clear B3
  have l0 : 0 ≤ n % 4294967296 / 4096 % 1048576 := by omega
  have u0 : n % 4294967296 / 4096 % 1048576 < 1048576 := by omega
  generalize hp0 : n % 4294967296 / 4096 % 1048576 = p0 at *
  have P0 := Lib.hid hp0
  clear hp0
  go_wp2_with fail
  refine (power_lit 12 4096 pw12 (by omega) (by omega) _).mono ?_
  rintro e w' ⟨rfl, rfl⟩
  go_wp2_with fail
  go_ret2
  refine ⟨ret_two ?_, B2.out⟩
  rw [hw.out]
  have h1 := hX.out
  have h2 := hz.out
  have h3 := N7.out
  have h4 := N3.out
  have r0 : p0 = n / 4096 % 1048576 := by have := P0.out; omega
  rw [he.out] at h2
  simp [M.reg, M.hasRd, M.hasA, M.hasB] at h2
  simp only [M.lay]
  clear hX hz he hw HM HF HX' B2 m0 m1
  try rw [← r0]
  omega
set_option maxRecDepth 100000 in
set_option maxHeartbeats 8000000 in
theorem rword_6 (k : Nat) (k1 : 1 ≤ k) (k2 : k < 32) (e : M.fm k = 6) (rd a b n : Int) (w : World) (hy : M.may k rd a b n = true) :
    Calls Tryd.prog 18 #[.agg #[.int .i64 k, .int .i64 rd, .int .i64 a, .int .i64 b, .int .i64 n]] w fun e w' => e = .returned (.tuple #[.int .u32 (M.word k rd a b n), .int .i64 0]) ∧ Below w.heap.size w w' := by
  obtain ⟨⟨d0, d1⟩, ⟨a0, a1⟩, b0, b1⟩ := M.regs_in k2 hy
  have hw := Lib.hid (show M.word k rd a b n = M.op k + M.f3 k * 4096 + M.f7 k * 33554432 + rd * 128 + a * 32768 + b * 1048576 + M.lay 6 n by rw [← e]; rfl)
  have HM := Lib.hid (fun W => (rmay_in k k1 k2 rd a b n W).mono fun e w' h => (by rw [hy] at h; exact h : e = .returned (.bool true) ∧ Below W.heap.size W w'))
  have HF0 := fun W => form_any k k1 k2 W
  rw [e, show letter 6 = 74 from rfl] at HF0
  have HF := Lib.hid HF0
  clear HF0
  obtain ⟨o0, o1⟩ := M.op_in k2
  obtain ⟨g0, g1⟩ := M.f3_in k2
  obtain ⟨s0, s1⟩ := M.f7_in k2
  have n7 : M.f7 k = 0 := M.f7_no k2 (by omega)
  have n3 : M.f3 k = 0 := M.f3_no k2 (by rw [e]; rfl)
  obtain ⟨x, hx, x0, x1, HX⟩ : ∃ x : Int, x = M.op k + 4096 * M.f3 k + 33554432 * M.f7 k ∧ 0 ≤ x ∧ x < 128 ∧ ∀ W, Calls Tryd.prog 33 #[.int .i64 k] W fun e w' => e = .returned (.int .u32 x) ∧ Below W.heap.size W w' :=
    ⟨_, rfl, by omega, by omega, fun W => fixed_any k k1 k2 W⟩
  have hz := Lib.hid (M.may_parts hy)
  have he := Lib.hid e
  have hX := Lib.hid hx
  have HX' := Lib.hid HX
  have N7 := Lib.hid n7
  have N3 := Lib.hid n3
  clear n7 n3
  have m0 : 0 ≤ n % 4294967296 := by omega
  have m1 : n % 4294967296 < 4294967296 := by omega
  clear hy e hx HX o0 o1 g0 g1 s0 s1
  go_enter Tryd.func18, Tryd.ntmps18
  go_wp2_with fail
  refine (HM.out _).mono ?_
  rintro e w1 ⟨rfl, hb1⟩
  have c0 : w1.cell? ⟨w.heap.size, 0, none⟩ = some (.int .i64 k) := (hb1.cell (p := ⟨w.heap.size, 0, none⟩) (by simp)).trans (by go_simp)
  have c1 : w1.cell? ⟨w.heap.size, 1, none⟩ = some (.int .i64 rd) := (hb1.cell (p := ⟨w.heap.size, 1, none⟩) (by simp)).trans (by go_simp)
  have c2 : w1.cell? ⟨w.heap.size, 2, none⟩ = some (.int .i64 a) := (hb1.cell (p := ⟨w.heap.size, 2, none⟩) (by simp)).trans (by go_simp)
  have c3 : w1.cell? ⟨w.heap.size, 3, none⟩ = some (.int .i64 b) := (hb1.cell (p := ⟨w.heap.size, 3, none⟩) (by simp)).trans (by go_simp)
  have c4 : w1.cell? ⟨w.heap.size, 4, none⟩ = some (.int .i64 n) := (hb1.cell (p := ⟨w.heap.size, 4, none⟩) (by simp)).trans (by go_simp)
  have z1 : w.heap.size < w1.heap.size := by have := hb1.size; simp at this; omega
  have B1 := Lib.hid (bthen (balloc (Below.refl _ _) _) hb1)
  clear hb1
  go_wp2_with fail
  refine (HF.out _).mono ?_
  rintro e w' ⟨rfl, rfl⟩
  go_wp2_with fail
  refine (HX'.out _).mono ?_
  rintro e w2 ⟨rfl, hb2⟩
  have C1 : w2.cell? ⟨w.heap.size, 1, none⟩ = some (.int .i64 rd) := (hb2.cell (p := ⟨w.heap.size, 1, none⟩) z1).trans c1
  have C2 : w2.cell? ⟨w.heap.size, 2, none⟩ = some (.int .i64 a) := (hb2.cell (p := ⟨w.heap.size, 2, none⟩) z1).trans c2
  have C3 : w2.cell? ⟨w.heap.size, 3, none⟩ = some (.int .i64 b) := (hb2.cell (p := ⟨w.heap.size, 3, none⟩) z1).trans c3
  have C4 : w2.cell? ⟨w.heap.size, 4, none⟩ = some (.int .i64 n) := (hb2.cell (p := ⟨w.heap.size, 4, none⟩) z1).trans c4
  have B2 := Lib.hid (bthen B1.out hb2)
  clear hb2 c0 c1 c2 c3 c4 z1 B1
  go_wp2_with fail
  go_quiet ((go_at_call 34; exact Calls.quiet_of_same (power_lt 7 128 pw7 (by omega) (by omega) _)))
  have B3 := Lib.hid (bthen B2.out (drewN_below _ nq))
  clear B2
  have D1 : (w2.drewN nq).cell? ⟨w.heap.size, 1, none⟩ = some (.int .i64 rd) := C1
  have D2 : (w2.drewN nq).cell? ⟨w.heap.size, 2, none⟩ = some (.int .i64 a) := C2
  have D3 : (w2.drewN nq).cell? ⟨w.heap.size, 3, none⟩ = some (.int .i64 b) := C3
  clear C1 C2 C3 C4
  generalize w2.drewN nq = w3 at *
  clear nq w2
  obtain ⟨w2, rfl⟩ : ∃ w2, w2 = w3 := ⟨_, rfl⟩
  have B2 := B3
  have C1 := D1
  have C2 := D2
  have C3 := D3
  have C4 : True := trivial
  clear B3 D1 D2 D3
  go_wp2_with fail
  have S0' : 0 ≤ x + rd * 128 ∧ x + rd * 128 < 4096 := by omega
  generalize hS : x + rd * 128 = S at *
  obtain ⟨S0, S1⟩ := S0'
  have HS := Lib.hid hS
  generalize hN : n % 4294967296 = N at *
  have HN := Lib.hid hN
  have HR := Lib.hid (And.intro d0 (And.intro d1 (And.intro a0 (And.intro a1 (And.intro b0 (And.intro b1 (And.intro x0 x1)))))))
  clear hS hN d0 d1 a0 a1 b0 b1 x0 x1
  refine (part_lit _ 12 8 4096 256 pw12 pw8 m0 m1 (by omega) (by omega) (by omega) (by omega) _).mono ?_
  rintro e w3 ⟨rfl, hb3⟩
  have B3 := Lib.hid (bthen B2.out hb3)
  clear hb3 B2
  have B2 := B3
  clear B3
  have l0 : 0 ≤ N / 4096 % 256 := by omega
  have u0 : N / 4096 % 256 < 256 := by omega
  generalize hp0 : N / 4096 % 256 = p0 at *
  have P0 := Lib.hid hp0
  clear hp0
  go_wp2_with fail
  refine (power_lit 12 4096 pw12 (by omega) (by omega) _).mono ?_
  rintro e w' ⟨rfl, rfl⟩
  go_wp2_with fail
  have T1' : 0 ≤ S + p0 * 4096 ∧ S + p0 * 4096 < 1048576 := by omega
  generalize hT1 : S + p0 * 4096 = T1 at *
  obtain ⟨T1a, T1b⟩ := T1'
  have HT1 := Lib.hid hT1
  have HL1 := Lib.hid (And.intro l0 u0)
  clear hT1 l0 u0
  clear S0 S1
  refine (part_lit _ 11 1 2048 2 pw11 pw1 m0 m1 (by omega) (by omega) (by omega) (by omega) _).mono ?_
  rintro e w3 ⟨rfl, hb3⟩
  have B3 := Lib.hid (bthen B2.out hb3)
  clear hb3 B2
  have B2 := B3
  clear B3
  have l1 : 0 ≤ N / 2048 % 2 := by omega
  have u1 : N / 2048 % 2 < 2 := by omega
  generalize hp1 : N / 2048 % 2 = p1 at *
  have P1 := Lib.hid hp1
  clear hp1
  go_wp2_with fail
  refine (power_lit 20 1048576 pw20 (by omega) (by omega) _).mono ?_
  rintro e w' ⟨rfl, rfl⟩
  go_wp2_with fail
  have T2' : 0 ≤ T1 + p1 * 1048576 ∧ T1 + p1 * 1048576 < 2097152 := by omega
  generalize hT2 : T1 + p1 * 1048576 = T2 at *
  obtain ⟨T2a, T2b⟩ := T2'
  have HT2 := Lib.hid hT2
  have HL2 := Lib.hid (And.intro l1 u1)
  clear hT2 l1 u1
  clear T1a T1b
  refine (part_lit _ 1 10 2 1024 pw1 pw10 m0 m1 (by omega) (by omega) (by omega) (by omega) _).mono ?_
  rintro e w3 ⟨rfl, hb3⟩
  have B3 := Lib.hid (bthen B2.out hb3)
  clear hb3 B2
  have B2 := B3
  clear B3
  have l2 : 0 ≤ N / 2 % 1024 := by omega
  have u2 : N / 2 % 1024 < 1024 := by omega
  generalize hp2 : N / 2 % 1024 = p2 at *
  have P2 := Lib.hid hp2
  clear hp2
  go_wp2_with fail
  refine (power_lit 21 2097152 pw21 (by omega) (by omega) _).mono ?_
  rintro e w' ⟨rfl, rfl⟩
  go_wp2_with fail
  have T3' : 0 ≤ T2 + p2 * 2097152 ∧ T2 + p2 * 2097152 < 2147483648 := by omega
  generalize hT3 : T2 + p2 * 2097152 = T3 at *
  obtain ⟨T3a, T3b⟩ := T3'
  have HT3 := Lib.hid hT3
  have HL3 := Lib.hid (And.intro l2 u2)
  clear hT3 l2 u2
  clear T2a T2b
  refine (part_lit _ 20 1 1048576 2 pw20 pw1 m0 m1 (by omega) (by omega) (by omega) (by omega) _).mono ?_
  rintro e w3 ⟨rfl, hb3⟩
  have B3 := Lib.hid (bthen B2.out hb3)
  clear hb3 B2
  have B2 := B3
  clear B3
  have l3 : 0 ≤ N / 1048576 % 2 := by omega
  have u3 : N / 1048576 % 2 < 2 := by omega
  generalize hp3 : N / 1048576 % 2 = p3 at *
  have P3 := Lib.hid hp3
  clear hp3
  go_wp2_with fail
  refine (power_lit 31 2147483648 pw31 (by omega) (by omega) _).mono ?_
  rintro e w' ⟨rfl, rfl⟩
  go_wp2_with fail
  go_ret2
  refine ⟨ret_two ?_, B2.out⟩
  rw [hw.out]
  have h1 := hX.out
  have h2 := hz.out
  have h3 := N7.out
  have h4 := HN.out
  have h5 := HS.out
  have h6 := N3.out
  have q1 := HT1.out
  have q2 := HT2.out
  have q3 := HT3.out
  have r0 : p0 = n / 4096 % 256 := by have := P0.out; omega
  have r1 : p1 = n / 2048 % 2 := by have := P1.out; omega
  have r2 : p2 = n / 2 % 1024 := by have := P2.out; omega
  have r3 : p3 = n / 1048576 % 2 := by have := P3.out; omega
  rw [he.out] at h2
  simp [M.reg, M.hasRd, M.hasA, M.hasB] at h2
  simp only [M.lay]
  clear hX hz he hw HM HF HX' B2 m0 m1 HN HS HR
  rw [← r0, ← r1, ← r2, ← r3]
  clear r0 r1 r2 r3 h4
  obtain ⟨h2a, h2b, h2c, _⟩ := h2
  omega
set_option maxRecDepth 100000 in
set_option maxHeartbeats 8000000 in
theorem rword_7 (k : Nat) (k1 : 1 ≤ k) (k2 : k < 32) (e : M.fm k = 7) (rd a b n : Int) (w : World) (hy : M.may k rd a b n = true) :
    Calls Tryd.prog 18 #[.agg #[.int .i64 k, .int .i64 rd, .int .i64 a, .int .i64 b, .int .i64 n]] w fun e w' => e = .returned (.tuple #[.int .u32 (M.word k rd a b n), .int .i64 0]) ∧ Below w.heap.size w w' := by
  obtain ⟨⟨d0, d1⟩, ⟨a0, a1⟩, b0, b1⟩ := M.regs_in k2 hy
  have hw := Lib.hid (show M.word k rd a b n = M.op k + M.f3 k * 4096 + M.f7 k * 33554432 + rd * 128 + a * 32768 + b * 1048576 + M.lay 7 n by rw [← e]; rfl)
  have HM := Lib.hid (fun W => (rmay_in k k1 k2 rd a b n W).mono fun e w' h => (by rw [hy] at h; exact h : e = .returned (.bool true) ∧ Below W.heap.size W w'))
  have HF0 := fun W => form_any k k1 k2 W
  rw [e, show letter 7 = 69 from rfl] at HF0
  have HF := Lib.hid HF0
  clear HF0
  obtain ⟨o0, o1⟩ := M.op_in k2
  obtain ⟨g0, g1⟩ := M.f3_in k2
  obtain ⟨s0, s1⟩ := M.f7_in k2
  have n7 : M.f7 k = 0 := M.f7_no k2 (by omega)
  obtain ⟨x, hx, x0, x1, HX⟩ : ∃ x : Int, x = M.op k + 4096 * M.f3 k + 33554432 * M.f7 k ∧ 0 ≤ x ∧ x < 28800 ∧ ∀ W, Calls Tryd.prog 33 #[.int .i64 k] W fun e w' => e = .returned (.int .u32 x) ∧ Below W.heap.size W w' :=
    ⟨_, rfl, by omega, by omega, fun W => fixed_any k k1 k2 W⟩
  have hz := Lib.hid (M.may_parts hy)
  have he := Lib.hid e
  have hX := Lib.hid hx
  have HX' := Lib.hid HX
  have N7 := Lib.hid n7
  clear n7
  have m0 : 0 ≤ n % 4294967296 := by omega
  have m1 : n % 4294967296 < 4294967296 := by omega
  clear hy e hx HX o0 o1 g0 g1 s0 s1
  go_enter Tryd.func18, Tryd.ntmps18
  go_wp2_with fail
  refine (HM.out _).mono ?_
  rintro e w1 ⟨rfl, hb1⟩
  have c0 : w1.cell? ⟨w.heap.size, 0, none⟩ = some (.int .i64 k) := (hb1.cell (p := ⟨w.heap.size, 0, none⟩) (by simp)).trans (by go_simp)
  have c1 : w1.cell? ⟨w.heap.size, 1, none⟩ = some (.int .i64 rd) := (hb1.cell (p := ⟨w.heap.size, 1, none⟩) (by simp)).trans (by go_simp)
  have c2 : w1.cell? ⟨w.heap.size, 2, none⟩ = some (.int .i64 a) := (hb1.cell (p := ⟨w.heap.size, 2, none⟩) (by simp)).trans (by go_simp)
  have c3 : w1.cell? ⟨w.heap.size, 3, none⟩ = some (.int .i64 b) := (hb1.cell (p := ⟨w.heap.size, 3, none⟩) (by simp)).trans (by go_simp)
  have c4 : w1.cell? ⟨w.heap.size, 4, none⟩ = some (.int .i64 n) := (hb1.cell (p := ⟨w.heap.size, 4, none⟩) (by simp)).trans (by go_simp)
  have z1 : w.heap.size < w1.heap.size := by have := hb1.size; simp at this; omega
  have B1 := Lib.hid (bthen (balloc (Below.refl _ _) _) hb1)
  clear hb1
  go_wp2_with fail
  refine (HF.out _).mono ?_
  rintro e w' ⟨rfl, rfl⟩
  go_wp2_with fail
  refine (HX'.out _).mono ?_
  rintro e w2 ⟨rfl, hb2⟩
  have C1 : w2.cell? ⟨w.heap.size, 1, none⟩ = some (.int .i64 rd) := (hb2.cell (p := ⟨w.heap.size, 1, none⟩) z1).trans c1
  have C2 : w2.cell? ⟨w.heap.size, 2, none⟩ = some (.int .i64 a) := (hb2.cell (p := ⟨w.heap.size, 2, none⟩) z1).trans c2
  have C3 : w2.cell? ⟨w.heap.size, 3, none⟩ = some (.int .i64 b) := (hb2.cell (p := ⟨w.heap.size, 3, none⟩) z1).trans c3
  have C4 : w2.cell? ⟨w.heap.size, 4, none⟩ = some (.int .i64 n) := (hb2.cell (p := ⟨w.heap.size, 4, none⟩) z1).trans c4
  have B2 := Lib.hid (bthen B1.out hb2)
  clear hb2 c0 c1 c2 c3 c4 z1 B1
  go_wp2_with fail
  go_ret2
  refine ⟨ret_two ?_, B2.out⟩
  rw [hw.out]
  have h1 := hX.out
  have h2 := hz.out
  have h3 := N7.out
  rw [he.out] at h2
  simp [M.reg, M.hasRd, M.hasA, M.hasB] at h2
  simp only [M.lay]
  clear hX hz he hw HM HF HX' B2 m0 m1
  omega
end Go.Proofs.YtclbkdnihhmglaaDoor.E
