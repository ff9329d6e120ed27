/- Package elf: numbers laid, some bytes each. -/
import Derived.Test.YtdlbhkdjcegbfaaF6
import Derived.RegionTactic
namespace Go.Proofs.Ytdlbhkdjcegbfaa
open Go.RowKit

/-- numbers that lie in a row -/
def Nums (W : World) (bs : Nat) (vs : List Nat) : Prop := ∃ cs fz, W.heap[bs]? = some (.cells cs 22 fz) ∧ ∀ (i : Nat) (h : i < vs.length), cs[i]? = some (.int .u64 vs[i])
theorem Nums.kept {W W' : World} {B b bs : Nat} {vs : List Nat} {l : List UInt8} (h : Nums W bs vs) (hf : Fl W B b l) (hk : Lib.OthersKept 5 (some b) W W') : Nums W' bs vs := by
  obtain ⟨cs, fz, h1, h2⟩ := h
  refine ⟨cs, fz, hk bs _ h1 (fun e => ?_) (fun c f e => by cases e), h2⟩
  have e2 : bs = b := Option.some.inj e
  subst e2
  rcases hf with ⟨-, v, hb, -⟩ | ⟨-, v, hb, -⟩ <;> (rw [h1] at hb; cases hb)
theorem Nums.cell {W : World} {bs : Nat} {vs : List Nat} (h : Nums W bs vs) {i : Nat} (hi : i < vs.length) : W.cell? ⟨bs, i, none⟩ = some (.int .u64 vs[i]) := by
  obtain ⟨cs, fz, h1, h2⟩ := h
  rw [Lib.cell_of_heap h1]; exact h2 i hi
theorem Nums.lt {W : World} {bs : Nat} {vs : List Nat} (h : Nums W bs vs) : bs < W.heap.size := by
  obtain ⟨cs, fz, h1, -⟩ := h
  exact (Array.getElem?_eq_some_iff.1 h1).1
def numsL (N : Nat) (vs : List Nat) : List UInt8 := vs.flatMap (fun v => M.lowest v N)
theorem numsL_snoc (N : Nat) (vs : List Nat) (i : Nat) (h : i < vs.length) : numsL N (vs.take (i + 1)) = numsL N (vs.take i) ++ M.lowest vs[i] N := by
  unfold numsL
  rw [List.take_succ_eq_append_getElem h, List.flatMap_append]
  simp
theorem numsL_length (N : Nat) : ∀ vs : List Nat, (numsL N vs).length = N * vs.length
  | [] => by simp [numsL]
  | v :: vs => by
    have := numsL_length N vs
    unfold numsL at this ⊢
    rw [List.flatMap_cons, List.length_append, this, M.lowest_length, List.length_cons, Nat.mul_succ]
    omega
set_option maxRecDepth 100000 in
set_option maxHeartbeats 4000000 in
theorem nums_any (B b bs cap N : Nat) (l : List UInt8) (vs : List Nat) (w : World) (h : Fl w B b l) (hv : Nums w bs vs) (hN : N ≤ 8) (h8 : vs.length ≤ 100) (h64 : ∀ v ∈ vs, v < 18446744073709551616) (hl : l.length ≤ 100000000) (hB : B ≤ w.heap.size) (h0 : 0 < N) (h1 : 0 < vs.length) :
    Calls Try.prog 137 #[.pointer (some ⟨b, 0, none⟩), .int .i64 N, .slice (some ⟨bs, 0, none⟩) vs.length cap] w fun e w' => e = .returned (.tuple #[]) ∧ Fl w' B b (l ++ numsL N vs) ∧ Below B w w' ∧ Lib.OthersKept 5 (some b) w w' := by
  have HF := Lib.hid h
  have HV := Lib.hid hv
  have H64 := Lib.hid h64
  have HL := Lib.hid hl
  have HB := Lib.hid hB
  obtain ⟨nv, hnv⟩ : ∃ n, vs.length = n := ⟨_, rfl⟩
  have HNV := Lib.hid hnv
  have n8 : (nv : Int) ≤ 100 := by omega
  have hN8 : (N : Int) ≤ 8 := by omega
  rw [hnv]
  clear h hv h64 hl hB hnv h8 h1
  go_enter Try.func137, Try.ntmps137
  go_wp2_with fail
  go_loopw [11] (fun iv wr => ∃ i : Nat, i ≤ nv ∧ iv = .int .i64 i ∧ Fl wr B b (l ++ numsL N (vs.take i)) ∧ Below B w wr ∧ Lib.OthersKept 5 (some b) w wr) (fun iv _ => nv - (intOf iv).toNat)
  case atStart => exact ⟨0, Nat.zero_le _, rfl, by simpa [numsL] using HF.out, Below.refl _ _, Lib.OthersKept.refl _ _ _⟩
  case round =>
    obtain ⟨i, hi, rfl, hf, hb, hk⟩ := hrel
    have HFI := Lib.hid hf
    have HBI := Lib.hid hb
    have HKI := Lib.hid hk
    clear hf hb hk
    by_cases hlt : i < nv
    · have hil : i < vs.length := by have := HNV.out; omega
      have HVI := Lib.hid (HV.out.kept HF.out HKI.out)
      have hc := HVI.out.cell hil
      have hv64 := H64.out vs[i] (List.getElem_mem hil)
      have HSN := Lib.hid (numsL_snoc N vs i hil)
      have hnl : (numsL N (vs.take i)).length = N * i := by rw [numsL_length, List.length_take]; rw [Nat.min_eq_left (by omega)]
      have HNL := Lib.hid (show (l ++ numsL N (vs.take i)).length ≤ 100000800 by
        rw [List.length_append, hnl]
        have h1 : N * i ≤ 8 * 100 := Nat.mul_le_mul (by omega) (by omega)
        have := HL.out
        omega)
      obtain ⟨v, hvv⟩ : ∃ v, vs[i] = v := ⟨_, rfl⟩
      rw [hvv] at hc hv64 HSN
      obtain ⟨pre, hpre⟩ : ∃ p, l ++ numsL N (vs.take i) = p := ⟨_, rfl⟩
      have HPRE := Lib.hid hpre
      rw [hpre] at HFI HNL
      have HIL := Lib.hid hlt
      have i0 : (0 : Int) ≤ (i : Int) := by omega
      have i1 : (i : Int) < (nv : Int) := by omega
      have HV6 := Lib.hid hv64
      clear hil hvv hpre hnl hv64
      go_wp2_with fail
      go_loopw [16] (fun jv wr2 => ∃ j : Nat, j ≤ N ∧ jv = .int .i64 j ∧ Fl wr2 B b (pre ++ M.lowest v j) ∧ Below B w wr2 ∧ Lib.OthersKept 5 (some b) w wr2) (fun jv _ => N - (intOf jv).toNat)
      case atStart => exact ⟨0, Nat.zero_le _, rfl, by simpa [M.lowest] using HFI.out, HBI.out, HKI.out⟩
      case round =>
        obtain ⟨j, hj, rfl, hf2, hb2, hk2⟩ := hrel
        have HF2 := Lib.hid hf2
        have HB2 := Lib.hid hb2
        have HK2 := Lib.hid hk2
        clear hf2 hb2 hk2 hc
        by_cases hjl : j < N
        · have HJL := Lib.hid hjl
          have hj8 : (j : Int) ≤ 7 := by omega
          have hj0 : (0 : Int) ≤ (j : Int) := by omega
          obtain ⟨q, hq⟩ : ∃ q, v / 256 ^ j = q := ⟨_, rfl⟩
          have HFB := Lib.hid (fun (W : World) (hW : Fl W B b (pre ++ M.lowest v j)) (hs : B ≤ W.heap.size) => fbyte_any B b (pre ++ M.lowest v j) (UInt8.ofNat (q % 256)) W hW (by have h1 := HNL.out; rw [List.length_append, M.lowest_length]; omega) hs)
          rw [show ((UInt8.ofNat (q % 256)).toNat : Int) = (q : Int) % 256 by simp] at HFB
          have HSN2 := Lib.hid (show M.lowest v (j + 1) = M.lowest v j ++ [UInt8.ofNat (q % 256)] by rw [M.lowest_snoc, hq])
          have h8j : IntKind.i64.wrap (8 * (j : Int)) = 8 * (j : Int) := IntWalk.i64_in _ (by omega)
          have h80 : (0 : Int) ≤ 8 * (j : Int) := by omega
          have h81 : 8 * (j : Int) ≤ 64 := by omega
          have hsh : (v : Int) / 2 ^ (8 * (j : Int)).toNat = (q : Int) := by
            rw [← hq, show (8 * (j : Int)).toNat = 8 * j by omega, Int.natCast_ediv, Int.natCast_pow, Int.pow_mul]
            rfl
          have hcv : IntKind.u8.wrap (q : Int) = (q : Int) % 256 := IntKind.wrap_u8 _
          clear hq
          go_wp2_with fail
          refine wp_region_any rfl ?_
          refine wpAny_take (i := 0) (v := ?_) rfl (by kernel_rfl) (by kernel_rfl) (by kernel_rfl) (fun _ _ _ h => h) (Or.inl ⟨by rfl, ?_⟩) ?_
          rotate_left
          · intro w; go_simp; try (with_reducible rfl)
          (try simp only [Act.put])
          refine wpAny_take (i := 1) (v := ?_) rfl (by kernel_rfl) (by kernel_rfl) (by kernel_rfl) (fun _ _ _ h => h) (Or.inl ⟨by rfl, ?_⟩) ?_
          rotate_left
          · intro w; go_simp; try (with_reducible rfl)
          (try simp only [Act.put])
          refine wpAny_take (i := 2) (v := ?_) rfl (by kernel_rfl) (by kernel_rfl) (by kernel_rfl) (fun _ _ _ h => h) (Or.inl ⟨by rfl, ?_⟩) ?_
          rotate_left
          · intro w; go_simp; try (with_reducible rfl)
          (try simp only [Act.put])
          refine wpAny_take (i := 3) (v := ?_) rfl (by kernel_rfl) (by kernel_rfl) (by kernel_rfl) (fun _ _ _ h => h) (Or.inl ⟨by rfl, ?_⟩) ?_
          rotate_left
          · intro w; go_simp; try (with_reducible rfl)
          (try simp only [Act.put])
          refine wpAny_take (i := 4) (v := ?_) rfl (by kernel_rfl) (by kernel_rfl) (by kernel_rfl) (fun _ _ _ h => h) (Or.inl ⟨by rfl, ?_⟩) ?_
          rotate_left
          · intro w; go_simp; try (with_reducible rfl)
          (try simp only [Act.put])
          refine wpAny_take (i := 5) (v := ?_) rfl (by kernel_rfl) (by kernel_rfl) (by kernel_rfl) (fun _ _ _ h => h) (Or.inl ⟨by rfl, ?_⟩) ?_
          rotate_left
          · intro w; go_simp; try (with_reducible rfl)
          (try simp only [Act.put])
          refine wpAny_take (i := 6) (v := ?_) rfl (by kernel_rfl) (by kernel_rfl) (by kernel_rfl) (fun _ _ _ h => h) (Or.inl ⟨by rfl, ?_⟩) ?_
          rotate_left
          · intro w; go_simp; try (with_reducible rfl)
          (try simp only [Act.put])
          refine wpAny_take (i := 7) (v := ?_) rfl (by kernel_rfl) (by kernel_rfl) (by kernel_rfl) (fun _ _ _ h => h) (Or.inl ⟨by rfl, ?_⟩) ?_
          rotate_left
          · intro w; go_simp; try (with_reducible rfl)
          (try simp only [Act.put])
          refine wpAny_ready (rs := [8]) (by kernel_rfl) (by simp) ?_
          refine AllReady.cons rfl (fun K hK => ?_) AllReady.nil
          go_simp
          refine (HFB.out wr.drew HF2.out (Nat.le_trans HB.out HB2.out.size)).mono ?_
          rintro e w2 ⟨rfl, hf3, hb3, hk3⟩
          refine hK _ _ ?_
          clear hK K
          (try simp only [Act.put])
          rw [List.append_assoc, ← HSN2.out] at hf3
          have HF3 := Lib.hid hf3.fl
          have HB3 := Lib.hid (HB2.out.drew.trans hb3)
          have HK3 := Lib.hid (HK2.out.drew.trans hk3)
          clear hf3 hb3 hk3
          refine wpAny_done (by kernel_rfl) ?_ _
          go_wp2_with fail
          go_roundw
          case rel => exact ⟨j + 1, HJL.out, by go_num, HF3.out, HB3.out, HK3.out⟩
          case measure => have := HJL.out; simp [intOf]; omega
        · obtain rfl : j = N := by omega
          have HF3 := Lib.hid (show Fl wr B b (l ++ numsL j (vs.take (i + 1))) by rw [HSN.out, ← List.append_assoc, HPRE.out]; exact HF2.out)
          go_wp2_with fail
          go_roundw
          case rel => exact ⟨i + 1, HIL.out, by go_num, HF3.out, HB2.out, HK2.out⟩
          case measure => have := HIL.out; simp [intOf]; omega
    · have HF3 := Lib.hid (show Fl wr B b (l ++ numsL N vs) by
        have h := HFI.out
        rw [List.take_of_length_le (by have := HNV.out; omega)] at h
        exact h)
      go_wp2_with fail
      go_end0
      exact ⟨rfl, HF3.out, HBI.out, HKI.out⟩
end Go.Proofs.Ytdlbhkdjcegbfaa
