/- Package bit: numbers laid by a writer; Num, of every number. -/
import Derived.Test.YtclbkdnihhmglaaB3
import Derived.Test.YtclbkdnihhmglaaB5
import Derived.RegionTactic
namespace Go.Proofs.Ytclbkdnihhmglaa
open Go.RowKit
namespace Q

/-- numbers that lie in a row -/
def Nums (W : World) (bs : Nat) (vs : List Nat) : Prop := ∃ cs fz, W.heap[bs]? = some (.cells cs 22 fz) ∧ ∀ (i : Nat) (h : i < vs.length), cs[i]? = some (.int .u64 vs[i])
theorem Nums.kept {W W' : World} {B b bs : Nat} {vs : List Nat} {l : List UInt8} (h : Nums W bs vs) (hf : Fl W B b l) (hk : Lib.OthersKept 5 (some b) W W') : Nums W' bs vs := by
  obtain ⟨cs, fz, h1, h2⟩ := h
  refine ⟨cs, fz, hk bs _ h1 (fun e => ?_) (fun c f e => by cases e), h2⟩
  have e2 : bs = b := Option.some.inj e
  subst e2
  rcases hf with ⟨-, v, hb, -⟩ | ⟨-, v, hb, -⟩ <;> (rw [h1] at hb; cases hb)
theorem Nums.cell {W : World} {bs : Nat} {vs : List Nat} (h : Nums W bs vs) {i : Nat} (hi : i < vs.length) : W.cell? ⟨bs, i, none⟩ = some (.int .u64 vs[i]) := by
  obtain ⟨cs, fz, h1, h2⟩ := h
  rw [Lib.cell_of_heap h1]; exact h2 i hi
theorem Nums.lt {W : World} {bs : Nat} {vs : List Nat} (h : Nums W bs vs) : bs < W.heap.size := by
  obtain ⟨cs, fz, h1, -⟩ := h
  exact (Array.getElem?_eq_some_iff.1 h1).1
/-- the bytes of numbers in a row -/
def numsQ (vs : List Nat) : List UInt8 := vs.flatMap numL
theorem numsQ_snoc (vs : List Nat) (i : Nat) (h : i < vs.length) : numsQ (vs.take (i + 1)) = numsQ (vs.take i) ++ numL vs[i] := by
  unfold numsQ
  rw [List.take_succ_eq_append_getElem h, List.flatMap_append]
  simp
theorem numsQ_length : ∀ vs : List Nat, (∀ v ∈ vs, v < 18446744073709551616) → (numsQ vs).length ≤ 10 * vs.length
  | [], _ => by simp [numsQ]
  | v :: vs, h => by
    have h1 := numsQ_length vs (fun x hx => h x (by simp [hx]))
    have h2 := numL_ten (h v (by simp))
    unfold numsQ at h1 ⊢
    rw [List.flatMap_cons, List.length_append, List.length_cons]
    omega
set_option maxRecDepth 100000 in
set_option maxHeartbeats 4000000 in
theorem numbers_any (B b bs cap : Nat) (l : List UInt8) (vs : List Nat) (w : World) (h : Fl w B b l) (hv : Nums w bs vs) (h8 : vs.length ≤ 100) (h64 : ∀ v ∈ vs, v < 18446744073709551616) (hl : l.length ≤ 100000000) (hB : B ≤ w.heap.size) :
    Calls Try.prog 101 #[.pointer (some ⟨b, 0, none⟩), .slice (some ⟨bs, 0, none⟩) vs.length cap] w fun e w' => e = .returned (.tuple #[]) ∧ Fl w' B b (l ++ numsQ vs) ∧ Below B w w' ∧ Lib.OthersKept 5 (some b) w w' := by
  have HF := Lib.hid h
  have HV := Lib.hid hv
  have H64 := Lib.hid h64
  have HL := Lib.hid hl
  have HB := Lib.hid hB
  obtain ⟨nv, hnv⟩ : ∃ n, vs.length = n := ⟨_, rfl⟩
  have HNV := Lib.hid hnv
  have n8 : (nv : Int) ≤ 100 := by omega
  rw [hnv]
  clear h hv h64 hl hB hnv h8
  go_enter Try.func101, Try.ntmps101
  go_wp2_with fail
  go_loopw [8] (fun iv wr => ∃ i : Nat, i ≤ nv ∧ iv = .int .i64 i ∧ Fl wr B b (l ++ numsQ (vs.take i)) ∧ Below B w wr ∧ Lib.OthersKept 5 (some b) w wr) (fun iv _ => nv - (intOf iv).toNat)
  case atStart => exact ⟨0, Nat.zero_le _, rfl, by simpa [numsQ] using HF.out, Below.refl _ _, Lib.OthersKept.refl _ _ _⟩
  case round =>
    obtain ⟨i, hi, rfl, hf, hb, hk⟩ := hrel
    have HFI := Lib.hid hf
    have HBI := Lib.hid hb
    have HKI := Lib.hid hk
    clear hf hb hk
    by_cases hlt : i < nv
    · have hil : i < vs.length := by have := HNV.out; omega
      have HVI := Lib.hid (HV.out.kept HF.out HKI.out)
      have hc := HVI.out.cell hil
      have hv64 := H64.out vs[i] (List.getElem_mem hil)
      have HSN := Lib.hid (numsQ_snoc vs i hil)
      have hnl : (numsQ (vs.take i)).length ≤ 10 * i := by
        have := numsQ_length (vs.take i) (fun x hx => H64.out x (List.mem_of_mem_take hx))
        rw [List.length_take, Nat.min_eq_left (by omega)] at this
        exact this
      have HNL := Lib.hid (show (l ++ numsQ (vs.take i)).length ≤ 100001000 by
        rw [List.length_append]
        have := HL.out
        omega)
      obtain ⟨v, hvv⟩ : ∃ v, vs[i] = v := ⟨_, rfl⟩
      rw [hvv] at hc hv64 HSN
      obtain ⟨pre, hpre⟩ : ∃ p, l ++ numsQ (vs.take i) = p := ⟨_, rfl⟩
      have HPRE := Lib.hid hpre
      rw [hpre] at HFI HNL
      have HIL := Lib.hid hlt
      have i0 : (0 : Int) ≤ (i : Int) := by omega
      have i1 : (i : Int) < (nv : Int) := by omega
      have HV6 := Lib.hid hv64
      have HTEN := Lib.hid (numL_ten hv64)
      clear hil hvv hpre hnl hv64
      go_wp2_with fail
      go_loopw [5] (fun jv wr2 => ∃ (x : Nat) (q : List UInt8), x < 18446744073709551616 ∧ jv = .int .u64 x ∧ q ++ numL x = pre ++ numL v ∧ Fl wr2 B b q ∧ Below B w wr2 ∧ Lib.OthersKept 5 (some b) w wr2) (fun jv _ => (intOf jv).toNat)
      case atStart => exact ⟨v, pre, HV6.out, rfl, rfl, HFI.out, HBI.out, HKI.out⟩
      case round =>
        obtain ⟨x, q, hx, rfl, hq, hf2, hb2, hk2⟩ := hrel
        have HF2 := Lib.hid hf2
        have HB2 := Lib.hid hb2
        have HK2 := Lib.hid hk2
        have HQ := Lib.hid hq
        have hql : q.length ≤ 100001010 := by
          have h1 := congrArg List.length hq
          rw [List.length_append, List.length_append] at h1
          have h2 := HNL.out
          have h3 := HTEN.out
          omega
        clear hf2 hb2 hk2 hc hq
        by_cases hx1 : x < 128
        · have e1 : decide ((128 : Int) ≤ (x : Int)) = false := decide_eq_false (by omega)
          have w8 : IntKind.u8.wrap (x : Int) = (x : Int) := by rw [IntKind.wrap_u8']; omega
          have HFB := Lib.hid (fbyte_any B b q (UInt8.ofNat x) wr HF2.out (by omega) (Nat.le_trans HB.out HB2.out.size))
          rw [ofNat_toNat (by omega)] at HFB
          have hqe := HQ.out
          rw [numL_lt hx1] at hqe
          have HQ := Lib.hid hqe
          clear hqe hx1
          go_wp2_with fail
          refine HFB.out.mono ?_
          rintro e w2 ⟨rfl, hf3, hb3, hk3⟩
          rw [HQ.out, ← HPRE.out, List.append_assoc, ← HSN.out] at hf3
          have HF3 := Lib.hid hf3.fl
          have HB3 := Lib.hid (HB2.out.trans hb3)
          have HK3 := Lib.hid (HK2.out.trans hk3)
          clear hf3 hb3 hk3
          go_wp2_with fail
          go_roundw
          case rel => exact ⟨i + 1, HIL.out, by go_num, HF3.out, HB3.out, HK3.out⟩
          case measure => have := HIL.out; simp [intOf]; omega
        · have e1 : decide ((128 : Int) ≤ (x : Int)) = true := decide_eq_true (by omega)
          have w8 : IntKind.u8.wrap (x : Int) = ((x % 256 : Nat) : Int) := by rw [IntKind.wrap_u8']; omega
          have wb : bits BinOp.or IntKind.u8 ((x % 256 : Nat) : Int) 128 = ((x % 128 + 128 : Nat) : Int) := by
            rw [b_set _ (by omega), show x % 256 % 128 = x % 128 by omega]
          have HFB := Lib.hid (fbyte_any B b q (UInt8.ofNat (x % 128 + 128)) wr HF2.out (by omega) (Nat.le_trans HB.out HB2.out.size))
          rw [ofNat_toNat (by omega)] at HFB
          have hqe := HQ.out
          rw [numL_ge hx1] at hqe
          have HQ := Lib.hid hqe
          obtain ⟨y, hy⟩ : ∃ y, x / 128 = y := ⟨_, rfl⟩
          rw [hy] at HQ
          have HX := Lib.hid (show y < x ∧ y < 18446744073709551616 by omega)
          have hsh : (x : Int) / 128 = (y : Int) := by omega
          obtain ⟨p, hp⟩ : ∃ p, x % 256 = p := ⟨_, rfl⟩
          obtain ⟨r, hr⟩ : ∃ r, x % 128 + 128 = r := ⟨_, rfl⟩
          rw [hp] at w8 wb
          rw [hr] at wb HFB HQ
          clear hqe hx1 hp hr hy hx
          go_wp2_with fail
          refine HFB.out.mono ?_
          rintro e w2 ⟨rfl, hf3, hb3, hk3⟩
          have HF3 := Lib.hid hf3.fl
          have HB3 := Lib.hid (HB2.out.trans hb3)
          have HK3 := Lib.hid (HK2.out.trans hk3)
          clear hf3 hb3 hk3
          go_wp2_with fail
          go_roundw
          case rel => exact ⟨y, _, HX.out.2, by go_num, by rw [← HQ.out]; simp, HF3.out, HB3.out, HK3.out⟩
          case measure => have := HX.out.1; simp [intOf]; omega
    · have HF3 := Lib.hid (show Fl wr B b (l ++ numsQ vs) by
        have h := HFI.out
        rw [List.take_of_length_le (by have := HNV.out; omega)] at h
        exact h)
      go_wp2_with fail
      go_end0
      exact ⟨rfl, HF3.out, HBI.out, HKI.out⟩
end Q
end Go.Proofs.Ytclbkdnihhmglaa
