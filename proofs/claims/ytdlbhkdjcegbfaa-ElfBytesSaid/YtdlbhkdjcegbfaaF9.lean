/- Package elf: what is told of a segment, and noughts up to where Data may stand. -/
import Derived.Test.YtdlbhkdjcegbfaaF8
import Derived.Test.YtdlbhkdjcegbfaaF4
import Derived.Deep.Cut
namespace Go.Proofs.Ytdlbhkdjcegbfaa
open Go.RowKit

theorem Keep.block {B b x : Nat} {w w' : World} {l : List UInt8} {cs : Array Value} {t : TypeId} {fz : Nat × Nat} (h : Keep B b w w') (hf : Fl w B b l) (hx : w.heap[x]? = some (.cells cs t fz)) (h1 : t ≠ 5) (h2 : t ≠ 149) : w'.heap[x]? = some (.cells cs t fz) := by
  refine h.kept x _ hx (fun e => ?_) (fun c f e => ?_)
  · have e2 : x = b := Option.some.inj e
    subst e2
    rcases hf with ⟨-, v, hb, -⟩ | ⟨-, v, hb, -⟩
    · rw [hx] at hb; cases hb; exact h2 rfl
    · rw [hx] at hb; cases hb; exact h2 rfl
  · cases e; exact h1 rfl
theorem Lies.here {B b : Nat} {w W : World} {l : List UInt8} (h : Lies B b w l W) : Lies B b W l W := ⟨h.f, Keep.refl _ _ _, h.s⟩
theorem Lies.on {B b : Nat} {w W W' : World} {l l' : List UInt8} (h : Lies B b w l W) (g : Lies B b W l' W') : Lies B b w l' W' := ⟨g.f, h.k.trans g.k, g.s⟩
set_option maxRecDepth 100000 in
set_option maxHeartbeats 1000000 in
theorem tell_any (B b a : Nat) (s : Sg) (l : List UInt8) (w W : World) (h : Lies B b w l W) (hb : segB s = true) (hi : SgIn s) (ha : a < 18446744073709551616) (hn : l.length ≤ 1000000) :
    Calls Try.prog 103 #[.pointer (some ⟨b, 0, none⟩), sgV s, .int .u64 a] W fun r w' => r = .returned (.tuple #[]) ∧ Lies B b w (l ++ tellL s a) w' := by
  have hT := fun a => show tellL s a = numsL 4 [1, s.p.toNat] ++ numsL 8 [a, s.a.toNat, s.a.toNat, s.d.size, s.z.toNat, 256] from rfl
  have HT := Lib.hid hT
  clear hT
  obtain ⟨sa, sp, sd, sz⟩ := s
  obtain ⟨-, -, gp, gz1, gz2, gd⟩ := segB_parts hb
  obtain ⟨p1, p7, -⟩ := permB_parts gp
  obtain ⟨⟨a0, a1⟩, -, ⟨z0, z1⟩, -⟩ := hi
  simp only at p1 p7 a0 a1 z0 z1 gz1 gz2 gd
  obtain ⟨P, hP⟩ := Int.eq_ofNat_of_zero_le (show 0 ≤ sp by omega)
  obtain ⟨A, hA⟩ := Int.eq_ofNat_of_zero_le a0
  obtain ⟨Z, hZ⟩ := Int.eq_ofNat_of_zero_le z0
  subst hP hA hZ
  have hpw : IntKind.u64.wrap (P : Int) = P := by rw [IntKind.wrap_u64]; omega
  have hdw : IntKind.u64.wrap (sd.size : Int) = sd.size := by rw [IntKind.wrap_u64]; omega
  have HN := Lib.hid hn
  have HE := Lib.hid (show P < 8 ∧ A < 18446744073709551616 ∧ Z < 18446744073709551616 ∧ sd.size < 18446744073709551616 ∧ a < 18446744073709551616 from ⟨by omega, by omega, by omega, by omega, ha⟩)
  unfold sgV
  simp only
  obtain ⟨w1, hw1⟩ : ∃ x, x = W.alloc (.cells #[.int .u64 (A : Int), .int .i64 (P : Int), .string sd, .int .u64 (Z : Int)] 41) := ⟨_, rfl⟩
  have HL1 := Lib.hid (show Lies B b w l w1 by rw [hw1]; exact h.alloc _)
  have hbx : w1.heap[W.heap.size]? = some (.cells #[.int .u64 (A : Int), .int .i64 (P : Int), .string sd, .int .u64 (Z : Int)] 41 (0, 0)) := by rw [hw1]; exact heap_alloc_new _ _
  have HBX := Lib.hid hbx
  have HL := Lib.hid HL1.out.here
  have c1 : w1.cell? ⟨W.heap.size, 1, none⟩ = some (.int .i64 (P : Int)) := by rw [Lib.cell_of_heap hbx]; rfl
  have HW1 := Lib.hid hw1
  clear h hb ha hn a0 a1 z0 z1 gz1 gz2 gd gp p1 p7 hbx
  have hc : Calls Try.prog 137 #[.pointer (some ⟨b, 0, none⟩), .int .i64 4, .slice (some ⟨w1.heap.size, 0, none⟩) 2 2] (w1.alloc (.cells #[.int .u64 1, .int .u64 P] 22)) fun r w' => r = .returned (.tuple #[]) ∧ Lies B b w1 (l ++ numsL 4 [1, P]) w' := nums_put B b 4 _ [1, P] w1 w1 HL.out (by omega) (by simp) (by have he := HE.out; simp; omega) (by have := HN.out; omega) (by omega) (by simp)
  go_enter Try.func103, Try.ntmps103
  go_upto_region 1 with fail
  rw [← hw1]
  clear hw1
  go_wp2_with fail
  refine hc.mono ?_
  rintro e2 w2 ⟨rfl, hL⟩
  have hbx2 := hL.k.block HL.out.f HBX.out (by decide) (by decide)
  have HL2 := Lib.hid hL
  clear hL hc c1
  have d0 : w2.cell? ⟨W.heap.size, 0, none⟩ = some (.int .u64 (A : Int)) := by rw [Lib.cell_of_heap hbx2]; rfl
  have d2 : w2.cell? ⟨W.heap.size, 2, none⟩ = some (.string sd) := by rw [Lib.cell_of_heap hbx2]; rfl
  have d3 : w2.cell? ⟨W.heap.size, 3, none⟩ = some (.int .u64 (Z : Int)) := by rw [Lib.cell_of_heap hbx2]; rfl
  clear hbx2
  have hc : Calls Try.prog 137 #[.pointer (some ⟨b, 0, none⟩), .int .i64 8, .slice (some ⟨w2.heap.size, 0, none⟩) 6 6] (w2.alloc (.cells #[.int .u64 a, .int .u64 A, .int .u64 A, .int .u64 sd.size, .int .u64 Z, .int .u64 256] 22)) fun r w' => r = .returned (.tuple #[]) ∧ Lies B b w1 (l ++ numsL 4 [1, P] ++ numsL 8 [a, A, A, sd.size, Z, 256]) w' := nums_put B b 8 _ [a, A, A, sd.size, Z, 256] w1 w2 HL2.out (by omega) (by simp) (by have he := HE.out; simp; omega) (by have := HN.out; simp only [List.length_append, numsL_length, List.length_cons, List.length_nil]; omega) (by omega) (by simp)
  go_wp2_with fail
  refine hc.mono ?_
  rintro e3 w3 ⟨rfl, hL⟩
  have HL3 := Lib.hid hL
  clear hL hc d0 d2 d3
  go_wp2_with fail
  go_end0
  refine ⟨rfl, ?_⟩
  have h := HL1.out.on HL3.out
  rw [HT.out, ← List.append_assoc]
  exact h
/-- how many noughts there are up to the next multiple of 256 -/
def padN (n : Nat) : Nat := (n + 255) / 256 * 256 - n
def lenOf (W : World) (b : Nat) : Nat := match W.cell? ⟨b, 1, none⟩ with | some (.slice _ n _) => n | _ => 0
theorem Fl.lenOf {W : World} {B b : Nat} {l : List UInt8} (h : Fl W B b l) : Go.Proofs.Ytdlbhkdjcegbfaa.lenOf W b = l.length := by
  obtain ⟨A, cap, c⟩ := h.cell1
  unfold Go.Proofs.Ytdlbhkdjcegbfaa.lenOf
  rw [c]
set_option maxRecDepth 100000 in
set_option maxHeartbeats 1000000 in
theorem pad_any (B b : Nat) (l : List UInt8) (w W : World) (h : Lies B b w l W) (hn : l.length ≤ 1000000) :
    Calls Try.prog 104 #[.pointer (some ⟨b, 0, none⟩)] W fun r w' => r = .returned (.tuple #[]) ∧ Lies B b w (l ++ List.replicate (padN l.length) 0) w' := by
  have HL := Lib.hid h
  have HN := Lib.hid hn
  clear h hn
  go_enter Try.func104, Try.ntmps104
  go_wp2_with fail
  go_loopw [] (fun wr => ∃ i : Nat, i ≤ padN l.length ∧ Lies B b w (l ++ List.replicate i 0) wr) (fun wr => padN l.length + l.length - lenOf wr b)
  case atStart => exact ⟨0, Nat.zero_le _, by simpa using HL.out⟩
  case round =>
    obtain ⟨i, hi, hL⟩ := hrel
    have HLI := Lib.hid hL
    have hlen : (l ++ List.replicate i (0 : UInt8)).length = l.length + i := by simp
    have HLE := Lib.hid hlen
    have hc := flen_any B b (l ++ List.replicate i 0) wr hL.f
    rw [hlen] at hc
    have HC := Lib.hid hc
    have HLO := Lib.hid hL.f.lenOf
    clear hL hc hlen
    have hp : padN l.length < 256 ∧ (l.length + padN l.length) % 256 = 0 := by unfold padN; omega
    obtain ⟨n, hnn⟩ : ∃ n, l.length + i = n := ⟨_, rfl⟩
    rw [hnn] at HC
    have HNN := Lib.hid hnn
    by_cases hlt : i < padN l.length
    · have h1 : n % 256 ≠ 0 := by unfold padN at hlt; omega
      have t1 : ((n : Int).tmod 256 != 0) = true := by rw [Int.tmod_eq_emod_of_nonneg (by omega)]; simp; omega
      have t2 : ((n : Int) % 256 != 0) = true := by simp; omega
      have HLT := Lib.hid hlt
      have HP := Lib.hid hp
      clear h1 hp hnn hlt hi
      go_wp2_with fail
      refine HC.out.mono ?_
      rintro e1 w1 ⟨rfl, rfl⟩
      have hw := fbyte_any B b (l ++ List.replicate i 0) 0 wr HLI.out.f (by have := HN.out; have := HLT.out; have := HP.out; rw [HLE.out]; omega) HLI.out.s
      go_wp2_with fail
      refine hw.mono ?_
      rintro e2 w2 ⟨rfl, g1, g2, g3⟩
      have HL2 := Lib.hid (show Lies B b w (l ++ List.replicate (i + 1) 0) w2 by
        rw [List.replicate_succ', ← List.append_assoc]
        exact ⟨g1.fl, HLI.out.k.trans ⟨g2, g3⟩, Nat.le_trans HLI.out.s g2.size⟩)
      have HLO2 := Lib.hid g1.fl.lenOf
      clear g1 g2 g3 hw
      go_wp2_with fail
      go_roundw
      case rel => exact ⟨i + 1, HLT.out, HL2.out⟩
      case measure => have h1 := HLO.out; have h2 := HLO2.out; have h3 := HLE.out; have h4 := HLT.out; rw [h1, h2]; simp only [List.length_append, List.length_cons, List.length_nil, List.length_replicate]; omega
    · have h1 : i = padN l.length := by omega
      have t1 : ((n : Int).tmod 256 != 0) = false := by rw [Int.tmod_eq_emod_of_nonneg (by omega)]; simp; omega
      have t2 : ((n : Int) % 256 != 0) = false := by simp; omega
      have HI := Lib.hid h1
      clear h1 hp hnn hlt hi
      go_wp2_with fail
      refine HC.out.mono ?_
      rintro e1 w1 ⟨rfl, rfl⟩
      go_wp2_with fail
      go_end0
      exact ⟨rfl, by rw [← HI.out]; exact HLI.out⟩
end Go.Proofs.Ytdlbhkdjcegbfaa
