/- What the texts of package resolve stand on, of the packages ir and pick (part 8). -/
import Derived.Test.YtpifndpbmjmglaaHE6
namespace Go.Proofs.Ytpifndpbmjmglaa
open Go.RowKit
/-- numbers that lie in a row -/
def Nums (W : World) (bs : Nat) (vs : List Nat) : Prop := ∃ cs fz, W.heap[bs]? = some (.cells cs 22 fz) ∧ ∀ (i : Nat) (h : i < vs.length), cs[i]? = some (.int .u64 vs[i])
theorem Nums.kept {W W' : World} {B b bs : Nat} {vs : List Nat} {l : List UInt8} (h : Nums W bs vs) (hf : Fl W B b l) (hk : Lib.OthersKept 5 (some b) W W') : Nums W' bs vs := by
  obtain ⟨cs, fz, h1, h2⟩ := h
  refine ⟨cs, fz, hk bs _ h1 (fun e => ?_) (fun c f e => by cases e), h2⟩
  have e2 : bs = b := Option.some.inj e
  subst e2
  rcases hf with ⟨-, v, hb, -⟩ | ⟨-, v, hb, -⟩ <;> (rw [h1] at hb; cases hb)
theorem Nums.cell {W : World} {bs : Nat} {vs : List Nat} (h : Nums W bs vs) {i : Nat} (hi : i < vs.length) : W.cell? ⟨bs, i, none⟩ = some (.int .u64 vs[i]) := by
  obtain ⟨cs, fz, h1, h2⟩ := h
  rw [Lib.cell_of_heap h1]; exact h2 i hi
theorem Nums.lt {W : World} {bs : Nat} {vs : List Nat} (h : Nums W bs vs) : bs < W.heap.size := by
  obtain ⟨cs, fz, h1, -⟩ := h
  exact (Array.getElem?_eq_some_iff.1 h1).1
def numsL (N : Nat) (vs : List Nat) : List UInt8 := vs.flatMap (fun v => M.lowest v N)
theorem numsL_snoc (N : Nat) (vs : List Nat) (i : Nat) (h : i < vs.length) : numsL N (vs.take (i + 1)) = numsL N (vs.take i) ++ M.lowest vs[i] N := by
  unfold numsL
  rw [List.take_succ_eq_append_getElem h, List.flatMap_append]
  simp
theorem numsL_length (N : Nat) : ∀ vs : List Nat, (numsL N vs).length = N * vs.length
  | [] => by simp [numsL]
  | v :: vs => by
    have := numsL_length N vs
    unfold numsL at this ⊢
    rw [List.flatMap_cons, List.length_append, this, M.lowest_length, List.length_cons, Nat.mul_succ]
    omega
set_option maxRecDepth 100000 in
set_option maxHeartbeats 4000000 in
theorem nums_any (B b bs cap N : Nat) (l : List UInt8) (vs : List Nat) (w : World) (h : Fl w B b l) (hv : Nums w bs vs) (hN : N ≤ 8) (h8 : vs.length ≤ 100) (h64 : ∀ v ∈ vs, v < 18446744073709551616) (hl : l.length ≤ 100000000) (hB : B ≤ w.heap.size) (h0 : 0 < N) (h1 : 0 < vs.length) :
    Calls Try.prog 29 #[.pointer (some ⟨b, 0, none⟩), .int .i64 N, .slice (some ⟨bs, 0, none⟩) vs.length cap] w fun e w' => e = .returned (.tuple #[]) ∧ Fl w' B b (l ++ numsL N vs) ∧ Below B w w' ∧ Lib.OthersKept 5 (some b) w w' := by
  have HF := Lib.hid h
  have HV := Lib.hid hv
  have H64 := Lib.hid h64
  have HL := Lib.hid hl
  have HB := Lib.hid hB
  obtain ⟨nv, hnv⟩ : ∃ n, vs.length = n := ⟨_, rfl⟩
  have HNV := Lib.hid hnv
  have n8 : (nv : Int) ≤ 100 := by omega
  have hN8 : (N : Int) ≤ 8 := by omega
  rw [hnv]
  clear h hv h64 hl hB hnv h8 h1
  go_enter Try.func29, Try.ntmps29
  go_wp2_with fail
  go_loopw [11] (fun iv wr => ∃ i : Nat, i ≤ nv ∧ iv = .int .i64 i ∧ Fl wr B b (l ++ numsL N (vs.take i)) ∧ Below B w wr ∧ Lib.OthersKept 5 (some b) w wr) (fun iv _ => nv - (intOf iv).toNat)
  case atStart => exact ⟨0, Nat.zero_le _, rfl, by simpa [numsL] using HF.out, Below.refl _ _, Lib.OthersKept.refl _ _ _⟩
  case round =>
    obtain ⟨i, hi, rfl, hf, hb, hk⟩ := hrel
    have HFI := Lib.hid hf
    have HBI := Lib.hid hb
    have HKI := Lib.hid hk
    clear hf hb hk
    by_cases hlt : i < nv
    · have hil : i < vs.length := by have := HNV.out; omega
      have HVI := Lib.hid (HV.out.kept HF.out HKI.out)
      have hc := HVI.out.cell hil
      have hv64 := H64.out vs[i] (List.getElem_mem hil)
      have HSN := Lib.hid (numsL_snoc N vs i hil)
      have hnl : (numsL N (vs.take i)).length = N * i := by rw [numsL_length, List.length_take]; rw [Nat.min_eq_left (by omega)]
      have HNL := Lib.hid (show (l ++ numsL N (vs.take i)).length ≤ 100000800 by
        rw [List.length_append, hnl]
        have h1 : N * i ≤ 8 * 100 := Nat.mul_le_mul (by omega) (by omega)
        have := HL.out
        omega)
      obtain ⟨v, hvv⟩ : ∃ v, vs[i] = v := ⟨_, rfl⟩
      rw [hvv] at hc hv64 HSN
      obtain ⟨pre, hpre⟩ : ∃ p, l ++ numsL N (vs.take i) = p := ⟨_, rfl⟩
      have HPRE := Lib.hid hpre
      rw [hpre] at HFI HNL
      have HIL := Lib.hid hlt
      have i0 : (0 : Int) ≤ (i : Int) := by omega
      have i1 : (i : Int) < (nv : Int) := by omega
      have HV6 := Lib.hid hv64
      clear hil hvv hpre hnl hv64
      go_wp2_with fail
      go_loopw [16] (fun jv wr2 => ∃ j : Nat, j ≤ N ∧ jv = .int .i64 j ∧ Fl wr2 B b (pre ++ M.lowest v j) ∧ Below B w wr2 ∧ Lib.OthersKept 5 (some b) w wr2) (fun jv _ => N - (intOf jv).toNat)
      case atStart => exact ⟨0, Nat.zero_le _, rfl, by simpa [M.lowest] using HFI.out, HBI.out, HKI.out⟩
      case round =>
        obtain ⟨j, hj, rfl, hf2, hb2, hk2⟩ := hrel
        have HF2 := Lib.hid hf2
        have HB2 := Lib.hid hb2
        have HK2 := Lib.hid hk2
        clear hf2 hb2 hk2 hc
        by_cases hjl : j < N
        · have HJL := Lib.hid hjl
          have hj8 : (j : Int) ≤ 7 := by omega
          have hj0 : (0 : Int) ≤ (j : Int) := by omega
          obtain ⟨q, hq⟩ : ∃ q, v / 256 ^ j = q := ⟨_, rfl⟩
          have HFB := Lib.hid (fun (W : World) (hW : Fl W B b (pre ++ M.lowest v j)) (hs : B ≤ W.heap.size) => fbyte_any B b (pre ++ M.lowest v j) (UInt8.ofNat (q % 256)) W hW (by have h1 := HNL.out; rw [List.length_append, M.lowest_length]; omega) hs)
          rw [show ((UInt8.ofNat (q % 256)).toNat : Int) = (q : Int) % 256 by simp] at HFB
          have HSN2 := Lib.hid (show M.lowest v (j + 1) = M.lowest v j ++ [UInt8.ofNat (q % 256)] by rw [M.lowest_snoc, hq])
          have h8j : IntKind.i64.wrap (8 * (j : Int)) = 8 * (j : Int) := IntWalk.i64_in _ (by omega)
          have h80 : (0 : Int) ≤ 8 * (j : Int) := by omega
          have h81 : 8 * (j : Int) ≤ 64 := by omega
          have hsh : (v : Int) / 2 ^ (8 * (j : Int)).toNat = (q : Int) := by
            rw [← hq, show (8 * (j : Int)).toNat = 8 * j by omega, Int.natCast_ediv, Int.natCast_pow, Int.pow_mul]
            rfl
          have hcv : IntKind.u8.wrap (q : Int) = (q : Int) % 256 := IntKind.wrap_u8 _
          clear hq
          go_wp2_with fail
          refine wp_region_any rfl ?_
          refine wpAny_take (i := 0) (v := ?_) rfl (by kernel_rfl) (by kernel_rfl) (by kernel_rfl) (fun _ _ _ h => h) (Or.inl ⟨by rfl, ?_⟩) ?_
          rotate_left
          · intro w; go_simp; try (with_reducible rfl)
          (try simp only [Act.put])
          refine wpAny_take (i := 1) (v := ?_) rfl (by kernel_rfl) (by kernel_rfl) (by kernel_rfl) (fun _ _ _ h => h) (Or.inl ⟨by rfl, ?_⟩) ?_
          rotate_left
          · intro w; go_simp; try (with_reducible rfl)
          (try simp only [Act.put])
          refine wpAny_take (i := 2) (v := ?_) rfl (by kernel_rfl) (by kernel_rfl) (by kernel_rfl) (fun _ _ _ h => h) (Or.inl ⟨by rfl, ?_⟩) ?_
          rotate_left
          · intro w; go_simp; try (with_reducible rfl)
          (try simp only [Act.put])
          refine wpAny_take (i := 3) (v := ?_) rfl (by kernel_rfl) (by kernel_rfl) (by kernel_rfl) (fun _ _ _ h => h) (Or.inl ⟨by rfl, ?_⟩) ?_
          rotate_left
          · intro w; go_simp; try (with_reducible rfl)
          (try simp only [Act.put])
          refine wpAny_take (i := 4) (v := ?_) rfl (by kernel_rfl) (by kernel_rfl) (by kernel_rfl) (fun _ _ _ h => h) (Or.inl ⟨by rfl, ?_⟩) ?_
          rotate_left
          · intro w; go_simp; try (with_reducible rfl)
          (try simp only [Act.put])
          refine wpAny_take (i := 5) (v := ?_) rfl (by kernel_rfl) (by kernel_rfl) (by kernel_rfl) (fun _ _ _ h => h) (Or.inl ⟨by rfl, ?_⟩) ?_
          rotate_left
          · intro w; go_simp; try (with_reducible rfl)
          (try simp only [Act.put])
          refine wpAny_take (i := 6) (v := ?_) rfl (by kernel_rfl) (by kernel_rfl) (by kernel_rfl) (fun _ _ _ h => h) (Or.inl ⟨by rfl, ?_⟩) ?_
          rotate_left
          · intro w; go_simp; try (with_reducible rfl)
          (try simp only [Act.put])
          refine wpAny_take (i := 7) (v := ?_) rfl (by kernel_rfl) (by kernel_rfl) (by kernel_rfl) (fun _ _ _ h => h) (Or.inl ⟨by rfl, ?_⟩) ?_
          rotate_left
          · intro w; go_simp; try (with_reducible rfl)
          (try simp only [Act.put])
          refine wpAny_ready (rs := [8]) (by kernel_rfl) (by simp) ?_
          refine AllReady.cons rfl (fun K hK => ?_) AllReady.nil
          go_simp
          refine (HFB.out wr.drew HF2.out (Nat.le_trans HB.out HB2.out.size)).mono ?_
          rintro e w2 ⟨rfl, hf3, hb3, hk3⟩
          refine hK _ _ ?_
          clear hK K
          (try simp only [Act.put])
          rw [List.append_assoc, ← HSN2.out] at hf3
          have HF3 := Lib.hid hf3.fl
          have HB3 := Lib.hid (HB2.out.drew.trans hb3)
          have HK3 := Lib.hid (HK2.out.drew.trans hk3)
          clear hf3 hb3 hk3
          refine wpAny_done (by kernel_rfl) ?_ _
          go_wp2_with fail
          go_roundw
          case rel => exact ⟨j + 1, HJL.out, by go_num, HF3.out, HB3.out, HK3.out⟩
          case measure => have := HJL.out; simp [intOf]; omega
        · obtain rfl : j = N := by omega
          have HF3 := Lib.hid (show Fl wr B b (l ++ numsL j (vs.take (i + 1))) by rw [HSN.out, ← List.append_assoc, HPRE.out]; exact HF2.out)
          go_wp2_with fail
          go_roundw
          case rel => exact ⟨i + 1, HIL.out, by go_num, HF3.out, HB2.out, HK2.out⟩
          case measure => have := HIL.out; simp [intOf]; omega
    · have HF3 := Lib.hid (show Fl wr B b (l ++ numsL N vs) by
        have h := HFI.out
        rw [List.take_of_length_le (by have := HNV.out; omega)] at h
        exact h)
      go_wp2_with fail
      go_end0
      exact ⟨rfl, HF3.out, HBI.out, HKI.out⟩
end Go.Proofs.Ytpifndpbmjmglaa
namespace Go.Proofs.Ytpifndpbmjmglaa
open Go.RowKit
theorem Nums.new (W : World) (vs : List Nat) : Nums (W.alloc (.cells (vs.map fun v : Nat => Value.int .u64 (v : Int)).toArray 22)) W.heap.size vs :=
  ⟨_, _, heap_alloc_new _ _, fun i hi => by simp [hi]⟩
theorem Fl.alloc {W : World} {B b : Nat} {l : List UInt8} (h : Fl W B b l) (o : Obj) : Fl (W.alloc o) B b l := by
  have hlt := h.lt
  rcases h with ⟨h1, v, hb, hown, hne⟩ | ⟨h1, v, hb, hown, hne⟩
  · exact .inl ⟨h1, v, by rw [Lib.alloc_old W o b hlt]; exact hb, hown.alloc o, hne⟩
  · exact .inr ⟨h1, v, by rw [Lib.alloc_old W o b hlt]; exact hb, hown.alloc o, hne⟩
/-- a file's frame: what was below B, and what isn't the file's or bytes, is as it was -/
structure Keep (B b : Nat) (w w' : World) : Prop where
  below : Below B w w'
  kept : Lib.OthersKept 5 (some b) w w'
theorem Keep.refl (B b : Nat) (w : World) : Keep B b w w := ⟨Below.refl _ _, Lib.OthersKept.refl _ _ _⟩
theorem Keep.alloc {B b : Nat} {w w' : World} (h : Keep B b w w') (hB : B ≤ w'.heap.size) (o : Obj) : Keep B b w (w'.alloc o) := ⟨h.below.alloc hB o, h.kept.alloc o⟩
theorem Keep.trans {B b : Nat} {w w' w2 : World} (h : Keep B b w w') (g : Keep B b w' w2) : Keep B b w w2 := ⟨h.below.trans g.below, h.kept.trans g.kept⟩
/-- where a file stands: its bytes, its frame -/
structure Lies (B b : Nat) (w : World) (l : List UInt8) (W : World) : Prop where
  f : Fl W B b l
  k : Keep B b w W
  s : B ≤ W.heap.size
theorem Lies.alloc {B b : Nat} {w W : World} {l : List UInt8} (h : Lies B b w l W) (o : Obj) : Lies B b w l (W.alloc o) := ⟨h.f.alloc o, h.k.alloc h.s o, by have := h.s; simp; omega⟩
theorem nums_put (B b N : Nat) (l : List UInt8) (vs : List Nat) (w W : World) (h : Lies B b w l W) (hN : N ≤ 8) (h8 : vs.length ≤ 100) (h64 : ∀ v ∈ vs, v < 18446744073709551616) (hl : l.length ≤ 100000000) (h0 : 0 < N) (h1 : 0 < vs.length) :
    Calls Try.prog 29 #[.pointer (some ⟨b, 0, none⟩), .int .i64 N, .slice (some ⟨W.heap.size, 0, none⟩) vs.length vs.length] (W.alloc (.cells (vs.map fun v : Nat => Value.int .u64 (v : Int)).toArray 22)) fun e w' => e = .returned (.tuple #[]) ∧ Lies B b w (l ++ numsL N vs) w' := by
  have h2 := h.alloc (.cells (vs.map fun v : Nat => Value.int .u64 (v : Int)).toArray 22)
  refine (nums_any B b _ _ N l vs _ h2.f (Nums.new W vs) hN h8 h64 hl h2.s h0 h1).mono ?_
  rintro e w' ⟨rfl, g1, g2, g3⟩
  exact ⟨rfl, g1, h2.k.trans ⟨g2, g3⟩, Nat.le_trans h2.s g2.size⟩
theorem str_put (B b : Nat) (l : List UInt8) (s : ByteArray) (w W : World) (h : Lies B b w l W) (hl : l.length + s.size ≤ 140737488355328) :
    Calls Try.prog 20 #[.pointer (some ⟨b, 0, none⟩), .string s] W fun e w' => e = .returned (.tuple #[.int .i64 s.size, .nilIface]) ∧ Lies B b w (l ++ s.data.toList) w' ∧ Fu w' B b (l ++ s.data.toList) := by
  refine (fstr_any B b l s W h.f hl h.s).mono ?_
  rintro e w' ⟨rfl, g1, g2, g3⟩
  exact ⟨rfl, ⟨g1.fl, h.k.trans ⟨g2, g3⟩, Nat.le_trans h.s g2.size⟩, g1⟩
def ident : List UInt8 := [127, 69, 76, 70, 2, 1, 1, 0, 0, 0, 0, 0, 0, 0, 0, 0]
/-- a file's head -/
def headL (e c : Nat) : List UInt8 := ident ++ numsL 2 [2, 243] ++ numsL 4 [1] ++ numsL 8 [e, 64, 0] ++ numsL 4 [0] ++ numsL 2 [64, 56, c, 0, 0, 0]
theorem headL_length (e c : Nat) : (headL e c).length = 64 := by
  unfold headL ident
  simp only [List.length_append, numsL_length, List.length_cons, List.length_nil]
/-- what is told of a segment -/
def tellL (s : Sg) (a : Nat) : List UInt8 := numsL 4 [1, s.p.toNat] ++ numsL 8 [a, s.a.toNat, s.a.toNat, s.d.size, s.z.toNat, 256]
theorem tellL_length (s : Sg) (a : Nat) : (tellL s a).length = 56 := by
  unfold tellL
  simp only [List.length_append, numsL_length, List.length_cons, List.length_nil]
set_option maxRecDepth 100000 in
set_option maxHeartbeats 1000000 in
theorem head_any (B b e c : Nat) (l : List UInt8) (w W : World) (h : Lies B b w l W) (he : e < 18446744073709551616 ∧ c < 18446744073709551616) (hn : l.length ≤ 1000000) :
    Calls Try.prog 16 #[.pointer (some ⟨b, 0, none⟩), .int .u64 e, .int .u64 c] W fun r w' => r = .returned (.tuple #[]) ∧ Lies B b w (l ++ headL e c) w' := by
  have HL := Lib.hid h
  have HE := Lib.hid he
  have HN := Lib.hid hn
  clear h he hn
  have hs := str_put B b l ⟨ident.toArray⟩ w W HL.out (by have := HN.out; show l.length + 16 ≤ _; omega)
  go_enter Try.func16, Try.ntmps16
  go_wp2_with fail
  refine hs.mono ?_
  rintro e0 w0 ⟨rfl, hL, -⟩
  have HL := Lib.hid (show Lies B b w (l ++ ident) w0 from hL)
  clear hL hs
  have hc : Calls Try.prog 29 #[.pointer (some ⟨b, 0, none⟩), .int .i64 2, .slice (some ⟨w0.heap.size, 0, none⟩) 2 2] (w0.alloc (.cells #[.int .u64 2, .int .u64 243] 22)) fun r w' => r = .returned (.tuple #[]) ∧ Lies B b w ((l ++ ident) ++ numsL 2 [2, 243]) w' := nums_put B b 2 _ [2, 243] w w0 HL.out (by omega) (by simp) (by have he := HE.out; simp; try omega) (by have := HN.out; simp only [ident, List.length_append, List.length_cons, List.length_nil]; omega) (by omega) (by simp)
  go_wp2_with fail
  refine hc.mono ?_
  rintro e1 w1 ⟨rfl, hL⟩
  have HL := Lib.hid hL
  clear hL hc
  have hc : Calls Try.prog 29 #[.pointer (some ⟨b, 0, none⟩), .int .i64 4, .slice (some ⟨w1.heap.size, 0, none⟩) 1 1] (w1.alloc (.cells #[.int .u64 1] 22)) fun r w' => r = .returned (.tuple #[]) ∧ Lies B b w (((l ++ ident) ++ numsL 2 [2, 243]) ++ numsL 4 [1]) w' := nums_put B b 4 _ [1] w w1 HL.out (by omega) (by simp) (by have he := HE.out; simp; try omega) (by have := HN.out; simp only [ident, List.length_append, numsL_length, List.length_cons, List.length_nil]; omega) (by omega) (by simp)
  go_wp2_with fail
  refine hc.mono ?_
  rintro e2 w2 ⟨rfl, hL⟩
  have HL := Lib.hid hL
  clear hL hc
  have hc : Calls Try.prog 29 #[.pointer (some ⟨b, 0, none⟩), .int .i64 8, .slice (some ⟨w2.heap.size, 0, none⟩) 3 3] (w2.alloc (.cells #[.int .u64 e, .int .u64 64, .int .u64 0] 22)) fun r w' => r = .returned (.tuple #[]) ∧ Lies B b w ((((l ++ ident) ++ numsL 2 [2, 243]) ++ numsL 4 [1]) ++ numsL 8 [e, 64, 0]) w' := nums_put B b 8 _ [e, 64, 0] w w2 HL.out (by omega) (by simp) (by have he := HE.out; simp; try omega) (by have := HN.out; simp only [ident, List.length_append, numsL_length, List.length_cons, List.length_nil]; omega) (by omega) (by simp)
  go_wp2_with fail
  refine hc.mono ?_
  rintro e3 w3 ⟨rfl, hL⟩
  have HL := Lib.hid hL
  clear hL hc
  have hc : Calls Try.prog 29 #[.pointer (some ⟨b, 0, none⟩), .int .i64 4, .slice (some ⟨w3.heap.size, 0, none⟩) 1 1] (w3.alloc (.cells #[.int .u64 0] 22)) fun r w' => r = .returned (.tuple #[]) ∧ Lies B b w (((((l ++ ident) ++ numsL 2 [2, 243]) ++ numsL 4 [1]) ++ numsL 8 [e, 64, 0]) ++ numsL 4 [0]) w' := nums_put B b 4 _ [0] w w3 HL.out (by omega) (by simp) (by have he := HE.out; simp; try omega) (by have := HN.out; simp only [ident, List.length_append, numsL_length, List.length_cons, List.length_nil]; omega) (by omega) (by simp)
  go_wp2_with fail
  refine hc.mono ?_
  rintro e4 w4 ⟨rfl, hL⟩
  have HL := Lib.hid hL
  clear hL hc
  have hc : Calls Try.prog 29 #[.pointer (some ⟨b, 0, none⟩), .int .i64 2, .slice (some ⟨w4.heap.size, 0, none⟩) 6 6] (w4.alloc (.cells #[.int .u64 64, .int .u64 56, .int .u64 c, .int .u64 0, .int .u64 0, .int .u64 0] 22)) fun r w' => r = .returned (.tuple #[]) ∧ Lies B b w ((((((l ++ ident) ++ numsL 2 [2, 243]) ++ numsL 4 [1]) ++ numsL 8 [e, 64, 0]) ++ numsL 4 [0]) ++ numsL 2 [64, 56, c, 0, 0, 0]) w' := nums_put B b 2 _ [64, 56, c, 0, 0, 0] w w4 HL.out (by omega) (by simp) (by have he := HE.out; simp; try omega) (by have := HN.out; simp only [ident, List.length_append, numsL_length, List.length_cons, List.length_nil]; omega) (by omega) (by simp)
  go_wp2_with fail
  refine hc.mono ?_
  rintro e5 w5 ⟨rfl, hL⟩
  have HL := Lib.hid hL
  clear hL hc
  go_wp2_with fail
  go_end0
  refine ⟨rfl, ?_⟩
  have h := HL.out
  unfold headL
  simpa only [List.append_assoc] using h
end Go.Proofs.Ytpifndpbmjmglaa
namespace Go.Proofs.Ytpifndpbmjmglaa
open Go.RowKit
theorem Keep.block {B b x : Nat} {w w' : World} {l : List UInt8} {cs : Array Value} {t : TypeId} {fz : Nat × Nat} (h : Keep B b w w') (hf : Fl w B b l) (hx : w.heap[x]? = some (.cells cs t fz)) (h1 : t ≠ 5) (h2 : t ≠ 55) : w'.heap[x]? = some (.cells cs t fz) := by
  refine h.kept x _ hx (fun e => ?_) (fun c f e => ?_)
  · have e2 : x = b := Option.some.inj e
    subst e2
    rcases hf with ⟨-, v, hb, -⟩ | ⟨-, v, hb, -⟩
    · rw [hx] at hb; cases hb; exact h2 rfl
    · rw [hx] at hb; cases hb; exact h2 rfl
  · cases e; exact h1 rfl
theorem Lies.here {B b : Nat} {w W : World} {l : List UInt8} (h : Lies B b w l W) : Lies B b W l W := ⟨h.f, Keep.refl _ _ _, h.s⟩
theorem Lies.on {B b : Nat} {w W W' : World} {l l' : List UInt8} (h : Lies B b w l W) (g : Lies B b W l' W') : Lies B b w l' W' := ⟨g.f, h.k.trans g.k, g.s⟩
set_option maxRecDepth 100000 in
set_option maxHeartbeats 1000000 in
theorem tell_any (B b a : Nat) (s : Sg) (l : List UInt8) (w W : World) (h : Lies B b w l W) (hb : segB s = true) (hi : SgIn s) (ha : a < 18446744073709551616) (hn : l.length ≤ 1000000) :
    Calls Try.prog 18 #[.pointer (some ⟨b, 0, none⟩), sgV s, .int .u64 a] W fun r w' => r = .returned (.tuple #[]) ∧ Lies B b w (l ++ tellL s a) w' := by
  have hT := fun a => show tellL s a = numsL 4 [1, s.p.toNat] ++ numsL 8 [a, s.a.toNat, s.a.toNat, s.d.size, s.z.toNat, 256] from rfl
  have HT := Lib.hid hT
  clear hT
  obtain ⟨sa, sp, sd, sz⟩ := s
  obtain ⟨-, -, gp, gz1, gz2, gd⟩ := segB_parts hb
  obtain ⟨p1, p7, -⟩ := permB_parts gp
  obtain ⟨⟨a0, a1⟩, -, ⟨z0, z1⟩, -⟩ := hi
  simp only at p1 p7 a0 a1 z0 z1 gz1 gz2 gd
  obtain ⟨P, hP⟩ := Int.eq_ofNat_of_zero_le (show 0 ≤ sp by omega)
  obtain ⟨A, hA⟩ := Int.eq_ofNat_of_zero_le a0
  obtain ⟨Z, hZ⟩ := Int.eq_ofNat_of_zero_le z0
  subst hP hA hZ
  have hpw : IntKind.u64.wrap (P : Int) = P := by rw [IntKind.wrap_u64]; omega
  have hdw : IntKind.u64.wrap (sd.size : Int) = sd.size := by rw [IntKind.wrap_u64]; omega
  have HN := Lib.hid hn
  have HE := Lib.hid (show P < 8 ∧ A < 18446744073709551616 ∧ Z < 18446744073709551616 ∧ sd.size < 18446744073709551616 ∧ a < 18446744073709551616 from ⟨by omega, by omega, by omega, by omega, ha⟩)
  unfold sgV
  simp only
  obtain ⟨w1, hw1⟩ : ∃ x, x = W.alloc (.cells #[.int .u64 (A : Int), .int .i64 (P : Int), .string sd, .int .u64 (Z : Int)] 41) := ⟨_, rfl⟩
  have HL1 := Lib.hid (show Lies B b w l w1 by rw [hw1]; exact h.alloc _)
  have hbx : w1.heap[W.heap.size]? = some (.cells #[.int .u64 (A : Int), .int .i64 (P : Int), .string sd, .int .u64 (Z : Int)] 41 (0, 0)) := by rw [hw1]; exact heap_alloc_new _ _
  have HBX := Lib.hid hbx
  have HL := Lib.hid HL1.out.here
  have c1 : w1.cell? ⟨W.heap.size, 1, none⟩ = some (.int .i64 (P : Int)) := by rw [Lib.cell_of_heap hbx]; rfl
  have HW1 := Lib.hid hw1
  clear h hb ha hn a0 a1 z0 z1 gz1 gz2 gd gp p1 p7 hbx
  have hc : Calls Try.prog 29 #[.pointer (some ⟨b, 0, none⟩), .int .i64 4, .slice (some ⟨w1.heap.size, 0, none⟩) 2 2] (w1.alloc (.cells #[.int .u64 1, .int .u64 P] 22)) fun r w' => r = .returned (.tuple #[]) ∧ Lies B b w1 (l ++ numsL 4 [1, P]) w' := nums_put B b 4 _ [1, P] w1 w1 HL.out (by omega) (by simp) (by have he := HE.out; simp; omega) (by have := HN.out; omega) (by omega) (by simp)
  go_enter Try.func18, Try.ntmps18
  go_upto_region 1 with fail
  rw [← hw1]
  clear hw1
  go_wp2_with fail
  refine hc.mono ?_
  rintro e2 w2 ⟨rfl, hL⟩
  have hbx2 := hL.k.block HL.out.f HBX.out (by decide) (by decide)
  have HL2 := Lib.hid hL
  clear hL hc c1
  have d0 : w2.cell? ⟨W.heap.size, 0, none⟩ = some (.int .u64 (A : Int)) := by rw [Lib.cell_of_heap hbx2]; rfl
  have d2 : w2.cell? ⟨W.heap.size, 2, none⟩ = some (.string sd) := by rw [Lib.cell_of_heap hbx2]; rfl
  have d3 : w2.cell? ⟨W.heap.size, 3, none⟩ = some (.int .u64 (Z : Int)) := by rw [Lib.cell_of_heap hbx2]; rfl
  clear hbx2
  have hc : Calls Try.prog 29 #[.pointer (some ⟨b, 0, none⟩), .int .i64 8, .slice (some ⟨w2.heap.size, 0, none⟩) 6 6] (w2.alloc (.cells #[.int .u64 a, .int .u64 A, .int .u64 A, .int .u64 sd.size, .int .u64 Z, .int .u64 256] 22)) fun r w' => r = .returned (.tuple #[]) ∧ Lies B b w1 (l ++ numsL 4 [1, P] ++ numsL 8 [a, A, A, sd.size, Z, 256]) w' := nums_put B b 8 _ [a, A, A, sd.size, Z, 256] w1 w2 HL2.out (by omega) (by simp) (by have he := HE.out; simp; omega) (by have := HN.out; simp only [List.length_append, numsL_length, List.length_cons, List.length_nil]; omega) (by omega) (by simp)
  go_wp2_with fail
  refine hc.mono ?_
  rintro e3 w3 ⟨rfl, hL⟩
  have HL3 := Lib.hid hL
  clear hL hc d0 d2 d3
  go_wp2_with fail
  go_end0
  refine ⟨rfl, ?_⟩
  have h := HL1.out.on HL3.out
  rw [HT.out, ← List.append_assoc]
  exact h
/-- how many noughts there are up to the next multiple of 256 -/
def padN (n : Nat) : Nat := (n + 255) / 256 * 256 - n
def lenOf (W : World) (b : Nat) : Nat := match W.cell? ⟨b, 1, none⟩ with | some (.slice _ n _) => n | _ => 0
theorem Fl.lenOf {W : World} {B b : Nat} {l : List UInt8} (h : Fl W B b l) : Go.Proofs.Ytpifndpbmjmglaa.lenOf W b = l.length := by
  obtain ⟨A, cap, c⟩ := h.cell1
  unfold Go.Proofs.Ytpifndpbmjmglaa.lenOf
  rw [c]
set_option maxRecDepth 100000 in
set_option maxHeartbeats 1000000 in
theorem pad_any (B b : Nat) (l : List UInt8) (w W : World) (h : Lies B b w l W) (hn : l.length ≤ 1000000) :
    Calls Try.prog 19 #[.pointer (some ⟨b, 0, none⟩)] W fun r w' => r = .returned (.tuple #[]) ∧ Lies B b w (l ++ List.replicate (padN l.length) 0) w' := by
  have HL := Lib.hid h
  have HN := Lib.hid hn
  clear h hn
  go_enter Try.func19, Try.ntmps19
  go_wp2_with fail
  go_loopw [] (fun wr => ∃ i : Nat, i ≤ padN l.length ∧ Lies B b w (l ++ List.replicate i 0) wr) (fun wr => padN l.length + l.length - lenOf wr b)
  case atStart => exact ⟨0, Nat.zero_le _, by simpa using HL.out⟩
  case round =>
    obtain ⟨i, hi, hL⟩ := hrel
    have HLI := Lib.hid hL
    have hlen : (l ++ List.replicate i (0 : UInt8)).length = l.length + i := by simp
    have HLE := Lib.hid hlen
    have hc := flen_any B b (l ++ List.replicate i 0) wr hL.f
    rw [hlen] at hc
    have HC := Lib.hid hc
    have HLO := Lib.hid hL.f.lenOf
    clear hL hc hlen
    have hp : padN l.length < 256 ∧ (l.length + padN l.length) % 256 = 0 := by unfold padN; omega
    obtain ⟨n, hnn⟩ : ∃ n, l.length + i = n := ⟨_, rfl⟩
    rw [hnn] at HC
    have HNN := Lib.hid hnn
    by_cases hlt : i < padN l.length
    · have h1 : n % 256 ≠ 0 := by unfold padN at hlt; omega
      have t1 : ((n : Int).tmod 256 != 0) = true := by rw [Int.tmod_eq_emod_of_nonneg (by omega)]; simp; omega
      have t2 : ((n : Int) % 256 != 0) = true := by simp; omega
      have HLT := Lib.hid hlt
      have HP := Lib.hid hp
      clear h1 hp hnn hlt hi
      go_wp2_with fail
      refine HC.out.mono ?_
      rintro e1 w1 ⟨rfl, rfl⟩
      have hw := fbyte_any B b (l ++ List.replicate i 0) 0 wr HLI.out.f (by have := HN.out; have := HLT.out; have := HP.out; rw [HLE.out]; omega) HLI.out.s
      go_wp2_with fail
      refine hw.mono ?_
      rintro e2 w2 ⟨rfl, g1, g2, g3⟩
      have HL2 := Lib.hid (show Lies B b w (l ++ List.replicate (i + 1) 0) w2 by
        rw [List.replicate_succ', ← List.append_assoc]
        exact ⟨g1.fl, HLI.out.k.trans ⟨g2, g3⟩, Nat.le_trans HLI.out.s g2.size⟩)
      have HLO2 := Lib.hid g1.fl.lenOf
      clear g1 g2 g3 hw
      go_wp2_with fail
      go_roundw
      case rel => exact ⟨i + 1, HLT.out, HL2.out⟩
      case measure => have h1 := HLO.out; have h2 := HLO2.out; have h3 := HLE.out; have h4 := HLT.out; rw [h1, h2]; simp only [List.length_append, List.length_cons, List.length_nil, List.length_replicate]; omega
    · have h1 : i = padN l.length := by omega
      have t1 : ((n : Int).tmod 256 != 0) = false := by rw [Int.tmod_eq_emod_of_nonneg (by omega)]; simp; omega
      have t2 : ((n : Int) % 256 != 0) = false := by simp; omega
      have HI := Lib.hid h1
      clear h1 hp hnn hlt hi
      go_wp2_with fail
      refine HC.out.mono ?_
      rintro e1 w1 ⟨rfl, rfl⟩
      go_wp2_with fail
      go_end0
      exact ⟨rfl, by rw [← HI.out]; exact HLI.out⟩
end Go.Proofs.Ytpifndpbmjmglaa
namespace Go.Proofs.Ytpifndpbmjmglaa
open Go.RowKit
def upN (n : Nat) : Nat := (n + 255) / 256 * 256
theorem upI_nat (n : Nat) (h : n ≤ 1000000) : upI (n : Int) = (upN n : Int) := by unfold upI upN; omega
/-- where the next segment's Data stands, and what was told so far -/
def tell2 (p : Nat × List UInt8) (g : Sg) : Nat × List UInt8 := (upN (p.1 + g.d.size), p.2 ++ tellL g p.1)
/-- the bytes with a segment's Data behind them -/
def dat2 (l : List UInt8) (g : Sg) : List UInt8 := l ++ List.replicate (padN l.length) 0 ++ g.d.data.toList
def told (e : Nat) (l : List Sg) : Nat × List UInt8 := l.foldl tell2 (upN (64 + 56 * l.length), headL e l.length)
/-- an image's file -/
def fileL (e : Nat) (l : List Sg) : List UInt8 := l.foldl dat2 (told e l).2
theorem foldl_take {α β : Type} (f : β → α → β) (b : β) (l : List α) (i : Nat) (h : i < l.length) : (l.take (i + 1)).foldl f b = f ((l.take i).foldl f b) l[i] := by
  rw [List.take_succ_eq_append_getElem h, List.foldl_append]; rfl
theorem told_bounds (a : Nat) (L : List UInt8) (l : List Sg) (hs : ∀ s ∈ l, segB s = true) : (l.foldl tell2 (a, L)).2.length = L.length + 56 * l.length ∧ (l.foldl tell2 (a, L)).1 ≤ a + 16640 * l.length := by
  induction l generalizing a L with
  | nil => simp
  | cons g t ih =>
    obtain ⟨-, -, -, -, gz, gd⟩ := segB_parts (hs g (by simp))
    have h := ih (upN (a + g.d.size)) (L ++ tellL g a) (fun s h => hs s (by simp [h]))
    rw [List.foldl_cons]
    show (t.foldl tell2 (upN (a + g.d.size), L ++ tellL g a)).2.length = _ ∧ _
    rw [h.1]
    refine ⟨?_, Nat.le_trans h.2 ?_⟩
    · rw [List.length_append, tellL_length, List.length_cons]; omega
    · rw [List.length_cons]; unfold upN; omega
theorem dat_bounds (L : List UInt8) (l : List Sg) (hs : ∀ s ∈ l, segB s = true) : (l.foldl dat2 L).length ≤ L.length + 16640 * l.length ∧ L.length ≤ (l.foldl dat2 L).length := by
  induction l generalizing L with
  | nil => simp
  | cons g t ih =>
    obtain ⟨-, -, -, -, gz, gd⟩ := segB_parts (hs g (by simp))
    have h := ih (dat2 L g) (fun s h => hs s (by simp [h]))
    have h2 : (dat2 L g).length = L.length + padN L.length + g.d.size := by
      unfold dat2
      simp only [List.length_append, List.length_replicate]
      rfl
    have h3 : padN L.length ≤ 255 := by unfold padN; omega
    rw [List.foldl_cons, List.length_cons]
    omega
theorem Keep.segs {B b : Nat} {w w' : World} {v : Value} {l : List Sg} (h : Keep B b w w') (hS : Segs w v l) (hb : ∀ p off n c, v = .slice (some ⟨p, off, none⟩) n c → p < B) : Segs w' v l := by
  rcases hS with h1 | ⟨h1, p, off, cap, rfl, h2⟩
  · exact .inl h1
  · have hp := hb p off _ cap rfl
    refine .inr ⟨h1, p, off, cap, rfl, Nat.lt_of_lt_of_le h2.1 h.below.size, fun i hi => ?_⟩
    obtain ⟨c0, c1, c2, c3⟩ := h2.2 i hi
    have hc : ∀ j, w'.cell? ⟨p, j, none⟩ = w.cell? ⟨p, j, none⟩ := fun j => h.below.cell (p := ⟨p, j, none⟩) hp
    exact ⟨(hc _).trans c0, (hc _).trans c1, (hc _).trans c2, (hc _).trans c3⟩
theorem Segs.old {W : World} {v : Value} {l : List Sg} (h : Segs W v l) (h0 : 0 < l.length) : ∀ p off n c, v = .slice (some ⟨p, off, none⟩) n c → p < W.heap.size := by
  rcases h with ⟨rfl, _⟩ | ⟨_, b, off, cap, rfl, h2⟩
  · simp at h0
  · intro p o n c e
    cases e
    exact h2.1
def WritePost (s : List UInt8) (err : Int) (w : World) (r : Ending) (w' : World) : Prop := r = .returned (.tuple #[.string ⟨s.toArray⟩, .int .i64 err]) ∧ Below w.heap.size w w'
set_option maxRecDepth 100000 in
set_option maxHeartbeats 4000000 in
theorem write_yes (l : List Sg) (e : Nat) (A : Option Addr) (nv cap : Nat) (w : World) (hS : Segs w (.slice A nv cap) l) (hI : ∀ s ∈ l, SgIn s) (he : e < 18446744073709551616) (hm : mayB l e = true) :
    Calls Try.prog 8 #[.agg #[.int .u64 e, .slice A nv cap]] w (WritePost (fileL e l) 0 w) := by
  have HM := Lib.hid (fun (W : World) (hb : Below w.heap.size w W) => may_any l e A nv cap W (hS.next hb) hI)
  rw [hm] at HM
  have hm2 := hm
  unfold mayB segsB at hm2
  simp only [Bool.and_eq_true, decide_eq_true_eq] at hm2
  have hsb := segs_all hm2.1.2
  obtain ⟨⟨⟨n1, n4⟩, -⟩, -⟩ := hm2
  have hn := hS.len
  have HSB := Lib.hid hsb
  have HN := Lib.hid hn
  have HI := Lib.hid hI
  have HS := Lib.hid hS
  have HE := Lib.hid he
  have HOLD := Lib.hid (hS.old (by omega))
  have hnv4 : (nv : Int) ≤ 4 := by omega
  have hnv1 : (1 : Int) ≤ (nv : Int) := by omega
  have hw1 : IntKind.u64.wrap (nv : Int) = nv := by rw [IntKind.wrap_u64]; omega
  have hw2 : IntKind.u64.wrap (56 * (nv : Int)) = 56 * nv := by rw [IntKind.wrap_u64]; omega
  have hw3 : IntKind.u64.wrap (64 + 56 * (nv : Int)) = 64 + 56 * nv := by rw [IntKind.wrap_u64]; omega
  have HU := Lib.hid (fun W => up_any (64 + 56 * (nv : Int)) (by omega) (by omega) W)
  rw [show (64 + 56 * (nv : Int)) = ((64 + 56 * nv : Nat) : Int) by omega, upI_nat _ (by omega), show ((64 + 56 * nv : Nat) : Int) = 64 + 56 * (nv : Int) by omega] at HU
  clear hS hI hm hsb n1 n4 hn he
  go_enter Try.func8, Try.ntmps8
  go_wp2_with fail
  refine (HM.out _ (balloc (Below.refl _ _) _)).mono ?_
  rintro r w1 ⟨rfl, hb⟩
  have hbx : w1.heap[w.heap.size]? = some (.cells #[.int .u64 (e : Int), .slice A nv cap] 25 (0, 0)) := (hb.block w.heap.size (by simp)).trans (heap_alloc_new w _)
  have HB1 := Lib.hid (bthen (balloc (Below.refl _ w) _) hb)
  have zlt : w.heap.size < w1.heap.size := (Array.getElem?_eq_some_iff.1 hbx).1
  clear hb
  obtain ⟨B, hB⟩ : ∃ B, w1.heap.size = B := ⟨_, rfl⟩
  obtain ⟨W, hW⟩ : ∃ W, w1.alloc (.cells #[.pointer none, .slice none 0 0] 55) = W := ⟨_, rfl⟩
  have hf := Fl.new w1
  rw [hB, hW] at hf
  have hbW : W.heap[w.heap.size]? = some (.cells #[.int .u64 (e : Int), .slice A nv cap] 25 (0, 0)) := by rw [← hW, Lib.alloc_old w1 _ _ zlt]; exact hbx
  have HBW := Lib.hid (show Below w.heap.size w W by rw [← hW]; exact balloc HB1.out _)
  have hsz : B ≤ W.heap.size := Nat.le_of_lt hf.lt
  have HL0 := Lib.hid (show Lies B B W [] W from ⟨hf, Keep.refl _ _ _, hsz⟩)
  have HBX := Lib.hid hbW
  rw [hB] at zlt
  have HWW := Lib.hid hW
  have HBB := Lib.hid hB
  have d0 : W.cell? ⟨w.heap.size, 0, none⟩ = some (.int .u64 (e : Int)) := by rw [Lib.cell_of_heap hbW]; rfl
  have d1 : W.cell? ⟨w.heap.size, 1, none⟩ = some (.slice A nv cap) := by rw [Lib.cell_of_heap hbW]; rfl
  clear hbx hbW hf hsz
  go_upto_region 4 with fail
  clear hW hB
  go_wp2_with fail
  refine (head_any B B e nv [] W W HL0.out ⟨HE.out, by omega⟩ (by simp)).mono ?_
  rintro r w2 ⟨rfl, hL⟩
  have HL := Lib.hid (show Lies B B W (headL e nv) w2 by simpa using hL)
  clear hL d0 d1
  have c0 := HL.out.k.block HL0.out.f HBX.out (by decide) (by decide)
  have d1 : w2.cell? ⟨w.heap.size, 1, none⟩ = some (.slice A nv cap) := by rw [Lib.cell_of_heap c0]; rfl
  clear c0
  go_wp2_with fail
  refine (HU.out _).mono ?_
  rintro r w3 ⟨rfl, rfl⟩
  go_upto_region 7 with fail
  go_loopw [5, 30] (fun av iv wr => ∃ (i a : Nat) (L : List UInt8), i ≤ nv ∧ iv = .int .i64 i ∧ av = .int .u64 a ∧ (l.take i).foldl tell2 (upN (64 + 56 * nv), headL e nv) = (a, L) ∧ Lies B B W L wr) (fun _ iv _ => nv - (intOf iv).toNat)
  case atStart => exact ⟨0, _, _, Nat.zero_le _, rfl, rfl, rfl, HL.out⟩
  case round =>
    obtain ⟨i, a, L, hi, rfl, rfl, hfold, hL⟩ := hrel
    have HLI := Lib.hid hL
    have HFO := Lib.hid hfold
    clear hL hfold
    by_cases hlt : i < nv
    · have hil : i < l.length := by have := HN.out; omega
      have hSr := HLI.out.k.segs (HS.out.next HBW.out) (fun p off n c e => by have h1 := HOLD.out p off n c e; omega)
      obtain ⟨bs, off, hA, c0, c1, c2, c3⟩ := hSr.at_ hil
      subst hA
      have hbd := told_bounds (upN (64 + 56 * nv)) (headL e nv) (l.take i) (fun s h => HSB.out s (List.mem_of_mem_take h))
      rw [HFO.out, headL_length, List.length_take, Nat.min_eq_left (by omega)] at hbd
      simp only at hbd
      have hft := foldl_take tell2 (upN (64 + 56 * nv), headL e nv) l i hil
      rw [HFO.out] at hft
      have hsg := HI.out l[i] (List.getElem_mem hil)
      have hsb := HSB.out l[i] (List.getElem_mem hil)
      obtain ⟨g, hgg⟩ : ∃ g, l[i] = g := ⟨_, rfl⟩
      rw [hgg] at c0 c1 c2 c3 hft hsg hsb
      have hup : upN (64 + 56 * nv) ≤ 512 := by unfold upN; omega
      have HT := Lib.hid (fun (X : World) (h : Lies B B X L X) => tell_any B B a g L X X h hsb hsg (by omega) (by omega))
      have HFT := Lib.hid hft
      obtain ⟨-, -, -, -, gz, gd⟩ := segB_parts hsb
      obtain ⟨ga, gp, gd', gzz⟩ := g
      simp only at c0 c1 c2 c3 gz gd
      unfold sgV at HT
      simp only at HT
      have hdw : IntKind.u64.wrap (gd'.size : Int) = gd'.size := by rw [IntKind.wrap_u64]; omega
      have haw : IntKind.u64.wrap ((a : Int) + gd'.size) = (a : Int) + gd'.size := by rw [IntKind.wrap_u64]; omega
      have HUA := Lib.hid (fun W => up_any ((a : Int) + gd'.size) (by omega) (by omega) W)
      rw [show (a : Int) + gd'.size = ((a + gd'.size : Nat) : Int) by omega, upI_nat _ (by omega), show ((a + gd'.size : Nat) : Int) = (a : Int) + gd'.size by omega] at HUA
      have HIL := Lib.hid hlt
      have i0 : (0 : Int) ≤ (i : Int) := by omega
      have i1 : (i : Int) < (nv : Int) := by omega
      have hgb : ∃ X, X = wr.alloc (.cells #[.int .u64 ga, .int .i64 gp, .string gd', .int .u64 gzz] 41) := ⟨_, rfl⟩
      obtain ⟨X, hX⟩ := hgb
      have hXb : X.heap[wr.heap.size]? = some (.cells #[.int .u64 ga, .int .i64 gp, .string gd', .int .u64 gzz] 41 (0, 0)) := by rw [hX]; exact heap_alloc_new _ _
      have HXB := Lib.hid hXb
      have HLX := Lib.hid (show Lies B B wr L X by rw [hX]; exact (HLI.out.here).alloc _)
      have HXX := Lib.hid hX
      clear hX hXb hft hsg hsb hgg hil hbd hup hSr gz gd
      go_wp2_with fail
      rw [← HXX.out]
      refine (HT.out X HLX.out.here).mono ?_
      rintro r w5 ⟨rfl, hL5⟩
      have c5 := hL5.k.block HLX.out.f HXB.out (by decide) (by decide)
      have HL5 := Lib.hid ((HLI.out.on HLX.out).on hL5)
      have k2 : w5.cell? ⟨wr.heap.size, 2, none⟩ = some (.string gd') := by rw [Lib.cell_of_heap c5]; rfl
      have hz5 := HL5.out.s
      have HNX := Lib.hid (show (l.take (i + 1)).foldl tell2 (upN (64 + 56 * nv), headL e nv) = (upN (a + gd'.size), L ++ tellL ⟨ga, gp, gd', gzz⟩ a) from HFT.out)
      clear hL5 c5 c0 c1 c2 c3
      go_wp2_with fail
      refine (HUA.out _).mono ?_
      rintro r w6 ⟨rfl, rfl⟩
      clear k2
      go_wp2_with fail
      go_roundw
      case rel => exact ⟨i + 1, _, _, HIL.out, by go_num, rfl, HNX.out, HL5.out⟩
      case measure => have := HIL.out; simp [intOf]; omega
    · have HFL := Lib.hid (show told e l = (a, L) by
        have h := HFO.out
        rw [List.take_of_length_le (by have := HN.out; omega), ← HN.out] at h
        exact h)
      have hbd := told_bounds (upN (64 + 56 * l.length)) (headL e l.length) l HSB.out
      have hlen : L.length ≤ 288 := by
        have h := hbd.1
        rw [show (l.foldl tell2 (upN (64 + 56 * l.length), headL e l.length)) = (a, L) from HFL.out, headL_length] at h
        simp only at h
        have := HN.out
        omega
      have HLE := Lib.hid hlen
      have c0 := HLI.out.k.block HL0.out.f HBX.out (by decide) (by decide)
      have d1 : wr.cell? ⟨w.heap.size, 1, none⟩ = some (.slice A nv cap) := by rw [Lib.cell_of_heap c0]; rfl
      clear c0 hbd hlen HFO
      go_wp2_with fail
      go_upto_region 13 with fail
      have HI0 := Lib.hid HLI.out
      go_loopw [48] (fun iv wr => ∃ (i : Nat) (L2 : List UInt8), i ≤ nv ∧ iv = .int .i64 i ∧ (l.take i).foldl dat2 L = L2 ∧ Lies B B W L2 wr ∧ (0 < i → Fu wr B B L2)) (fun iv _ => nv - (intOf iv).toNat)
      case atStart => exact ⟨0, L, Nat.zero_le _, rfl, rfl, HI0.out, fun h => absurd h (by omega)⟩
      case round =>
        obtain ⟨j, L2, hj, rfl, hfo2, hL2, hu2⟩ := hrel
        have HLJ := Lib.hid hL2
        have HFO2 := Lib.hid hfo2
        have HU2 := Lib.hid hu2
        clear hL2 hfo2 hu2 d1
        have hbd2 := dat_bounds L (l.take j) (fun s h => HSB.out s (List.mem_of_mem_take h))
        rw [HFO2.out, List.length_take] at hbd2
        have hL2n : L2.length ≤ 100000 := by
          have h1 := HLE.out
          have h2 := hbd2.1
          have h3 : min j l.length ≤ 4 := by omega
          omega
        have HL2N := Lib.hid hL2n
        clear hbd2 hL2n
        by_cases hjl : j < nv
        · have hil : j < l.length := by have := HN.out; omega
          have hSr := HLJ.out.k.segs (HS.out.next HBW.out) (fun p off n c e => by have h1 := HOLD.out p off n c e; omega)
          obtain ⟨bs, off, hA, c0, c1, c2, c3⟩ := hSr.at_ hil
          subst hA
          have hft := foldl_take dat2 L l j hil
          rw [HFO2.out] at hft
          have hsb := HSB.out l[j] (List.getElem_mem hil)
          obtain ⟨g, hgg⟩ : ∃ g, l[j] = g := ⟨_, rfl⟩
          rw [hgg] at c0 c1 c2 c3 hft hsb
          have HFT := Lib.hid hft
          obtain ⟨-, -, -, -, gz, gd⟩ := segB_parts hsb
          obtain ⟨ga, gp, gd', gzz⟩ := g
          simp only at c0 c1 c2 c3 gz gd
          have hgd : gd'.size ≤ 16384 := by omega
          have HGD := Lib.hid hgd
          have HIL := Lib.hid hjl
          have j0 : (0 : Int) ≤ (j : Int) := by omega
          have j1 : (j : Int) < (nv : Int) := by omega
          obtain ⟨X, hX⟩ : ∃ X, X = wr.alloc (.cells #[.int .u64 ga, .int .i64 gp, .string gd', .int .u64 gzz] 41) := ⟨_, rfl⟩
          have hXb : X.heap[wr.heap.size]? = some (.cells #[.int .u64 ga, .int .i64 gp, .string gd', .int .u64 gzz] 41 (0, 0)) := by rw [hX]; exact heap_alloc_new _ _
          have HXB := Lib.hid hXb
          have HLX := Lib.hid (show Lies B B wr L2 X by rw [hX]; exact (HLJ.out.here).alloc _)
          have HXX := Lib.hid hX
          clear hX hXb hft hsb hgg hil hSr gz gd hgd
          go_wp2_with fail
          rw [← HXX.out]
          refine (pad_any B B L2 X X HLX.out.here (by have := HL2N.out; omega)).mono ?_
          rintro r w5 ⟨rfl, hL5⟩
          have c5 := hL5.k.block HLX.out.f HXB.out (by decide) (by decide)
          have HL5 := Lib.hid ((HLJ.out.on HLX.out).on hL5)
          have k2 : w5.cell? ⟨wr.heap.size, 2, none⟩ = some (.string gd') := by rw [Lib.cell_of_heap c5]; rfl
          clear hL5 c5 c0 c1 c2 c3
          go_wp2_with fail
          refine (str_put B B (L2 ++ List.replicate (padN L2.length) 0) gd' W w5 HL5.out (by have h1 := HL2N.out; have h2 := HGD.out; rw [List.length_append, List.length_replicate]; unfold padN; omega)).mono ?_
          rintro r w6 ⟨rfl, hL6, hu6⟩
          have HL6 := Lib.hid (show Lies B B W (dat2 L2 ⟨ga, gp, gd', gzz⟩) w6 from hL6)
          have HU6 := Lib.hid (show Fu w6 B B (dat2 L2 ⟨ga, gp, gd', gzz⟩) from hu6)
          clear hL6 hu6 k2
          go_wp2_with fail
          go_roundw
          case rel => exact ⟨j + 1, _, HIL.out, by go_num, HFT.out, HL6.out, fun _ => HU6.out⟩
          case measure => have := HIL.out; simp [intOf]; omega
        · have HFF := Lib.hid (show fileL e l = L2 by
            have h := HFO2.out
            rw [List.take_of_length_le (by have := HN.out; omega)] at h
            unfold fileL
            rw [HFL.out]
            exact h)
          have hne : L2 ≠ [] := by
            intro h0
            have hb2 := dat_bounds L l HSB.out
            have h1 := HFF.out
            unfold fileL at h1
            rw [HFL.out] at h1
            simp only at h1
            rw [h1, h0] at hb2
            have hb := (told_bounds (upN (64 + 56 * l.length)) (headL e l.length) l HSB.out).1
            rw [show (l.foldl tell2 (upN (64 + 56 * l.length), headL e l.length)) = (a, L) from HFL.out, headL_length] at hb
            simp only [List.length_nil] at hb hb2
            omega
          have hs := fstring_any B B L2 wr (HU2.out (by omega)) hne
          have HB9 := Lib.hid (show Below w.heap.size w wr from HBW.out.trans (HLJ.out.k.below.mono (by omega)))
          go_wp2_with fail
          refine hs.mono ?_
          rintro r w9 ⟨rfl, hb9⟩
          have HB10 := Lib.hid (HB9.out.trans (hb9.mono (by omega)))
          clear hb9 hs hne
          go_wp2_with fail
          go_ret2
          exact ⟨by rw [HFF.out]; rfl, HB10.out⟩
end Go.Proofs.Ytpifndpbmjmglaa
namespace Go.Proofs.Ytpifndpbmjmglaa
open Go.RowKit
def exG : Sg := ⟨65536, 1, ⟨#[115, 0, 0, 0]⟩, 4⟩
theorem exG_may : mayB [exG] 65536 = true := by decide +kernel
theorem exG_in : ∀ s ∈ [exG], SgIn s := by
  intro s hs
  simp at hs
  subst hs
  exact ⟨⟨by decide, by decide⟩, ⟨by decide, by decide⟩, ⟨by decide, by decide⟩, by decide⟩
theorem exF_len : (fileL 65536 [exG]).length = 260 := by decide +kernel
theorem exF_end : (fileL 65536 [exG]).drop 256 = [115, 0, 0, 0] := by decide +kernel
set_option maxRecDepth 100000 in
set_option maxHeartbeats 1000000 in
theorem eshown_any (w : World) : Calls Try.prog 4 #[] w fun e w' => e = .returned (.bool true) ∧ Below w.heap.size w w' := by
  have HW := Lib.hid (fun (W : World) (A : Option Addr) (hS : Segs W (.slice A 1 1) [exG]) => write_yes [exG] 65536 A 1 1 W hS exG_in (by omega) exG_may)
  obtain ⟨S, hS⟩ : ∃ S : ByteArray, (⟨(fileL 65536 [exG]).toArray⟩ : ByteArray) = S := ⟨_, rfl⟩
  have h1 : S.size = 260 := by
    rw [← hS]
    show (fileL 65536 [exG]).toArray.size = 260
    rw [List.size_toArray, exF_len]
  have h2 : S.extract 256 260 = ⟨#[115, 0, 0, 0]⟩ := by
    rw [← hS]
    apply ByteArray.ext
    rw [ByteArray.data_extract]
    apply Array.ext'
    rw [Array.toList_extract, List.extract_eq_take_drop]
    show List.take _ (List.drop 256 (fileL 65536 [exG])) = _
    rw [exF_end]
    rfl
  unfold WritePost at HW
  rw [hS] at HW
  have H1 := Lib.hid h1
  have H2 := Lib.hid h2
  clear h1 h2 hS
  go_enter Try.func4, Try.ntmps4
  go_wp2_with fail
  have hS0 : Segs (w.alloc (.cells #[.int .u64 65536, .int .i64 1, .string ⟨#[115, 0, 0, 0]⟩, .int .u64 4] 41)) (.slice (some ⟨w.heap.size, 0, none⟩) 1 1) [exG] := by
    refine .inr ⟨by simp, w.heap.size, 0, 1, rfl, by simp, fun i hi => ?_⟩
    obtain rfl : i = 0 := by simp at hi; omega
    simp [go_sem, exG]
  refine (HW.out _ _ hS0).mono ?_
  rintro r w1 ⟨rfl, hb⟩
  have HB := Lib.hid (bthen (balloc (Below.refl _ w) _) hb)
  have h1 := H1.out
  have h2 := H2.out
  clear hb hS0
  go_wp2_with fail
  go_ret
  exact ⟨rfl, HB.out⟩
end Go.Proofs.Ytpifndpbmjmglaa
namespace Go.Proofs.Ytpifndpbmjmglaa
open Go.RowKit
theorem Pages.at_ {W : World} {A : Option Addr} {n cap : Nat} {m : List M.Pg} (h : Pages W (.slice A n cap) m) {i : Nat} (hi : i < m.length) :
    ∃ b off, A = some ⟨b, off, none⟩ ∧ b < W.heap.size ∧ W.cell? ⟨b, off + i * 3, none⟩ = some (.int .u64 m[i].a) ∧ W.cell? ⟨b, off + i * 3 + 1, none⟩ = some (.int .i64 m[i].p) ∧ W.cell? ⟨b, off + i * 3 + 2, none⟩ = some (.string m[i].d) := by
  rcases h with ⟨rfl, -⟩ | ⟨_, b, off, c, e, h1, h2⟩
  · simp at hi
  · exact ⟨b, off, (Value.slice.inj e).1, h1, h2 i hi⟩
/-- is that page where it begins? -/
def entB (e : Int) (x : M.Pg) : Bool := decide (x.p % 2 = 1) && (decide (x.a ≤ e) && decide (e - x.a < 256))
/-- what is told of a loaded image's pages -/
theorem load_guards {l : List Sg} {e : Int} (hm : mayB l e = true) (hI : ∀ s ∈ l, SgIn s) (hE : ldE l e = 0) :
    M.Right (loadF [] l) ∧ (∀ x ∈ loadF [] l, 1 ≤ x.p ∧ x.p ≤ 7 ∧ x.p % 4 ≠ 3) ∧ (loadF [] l).any (entB e) = true := by
  have hok := may_ok hm hI
  have hE' : loadE [] l = 0 := by unfold ldE at hE; rwa [if_pos hm] at hE
  obtain ⟨h1, -, -, h4, -, h6⟩ := load_all l [] rightNil hok hE'
  refine ⟨h1, fun x hx => ?_, ?_⟩
  · rcases h4 x hx with ⟨y, hy, -⟩ | ⟨g, hg, e⟩
    · simp at hy
    · have := hok g hg
      rw [e]
      exact ⟨this.p1, this.p7, this.p3⟩
  · unfold mayB beginB at hm
    simp only [Bool.and_eq_true] at hm
    obtain ⟨g, hg, hat⟩ := List.any_eq_true.1 hm.2
    unfold atB at hat
    simp only [Bool.and_eq_true, decide_eq_true_eq] at hat
    have hgo := hok g hg
    have hpg := hgo.pages
    have hj : ((e - g.a) / 256).toNat < sgN g := by omega
    obtain ⟨x, hx, e1, e2⟩ := h6 g hg _ hj
    refine List.any_eq_true.2 ⟨x, hx, ?_⟩
    unfold entB
    simp only [Bool.and_eq_true, decide_eq_true_eq]
    omega
end Go.Proofs.Ytpifndpbmjmglaa
namespace Go.Proofs.Ytpifndpbmjmglaa
open Go.ChangeShapes Go.WideShapes Go.ChangeAt Go.RowKit Go.Deep Go.Joins
theorem cellsSeg : Try.prog.cellsOf 41 = 4 := by kernel_rfl
theorem cellsImage : Try.prog.cellsOf 25 = 2 := by kernel_rfl
section
variable {H : Type} {enc : TypeId × Value → H}
/-- the segment that lies at a place -/
def sgAt (W : World) (b off i : Nat) : Sg :=
  ⟨match W.cell? ⟨b, off + i * 4, none⟩ with | some (.int _ z) => z | _ => 0, match W.cell? ⟨b, off + i * 4 + 1, none⟩ with | some (.int _ z) => z | _ => 0, match W.cell? ⟨b, off + i * 4 + 2, none⟩ with | some (.string s) => s | _ => .empty, match W.cell? ⟨b, off + i * 4 + 3, none⟩ with | some (.int _ z) => z | _ => 0⟩
theorem open_segs {W : World} {base : Nat} {spare : Nat → Bool} {held : Bool} {c : Value} {fuel : Nat} {y : DataW H × List MemPlace} (h : DataW.trod enc Try.prog W base spare held fuel 23 [c] = some y) :
    ∃ (A : Option Addr) (nv cap : Nat) (l : List Sg), c = .slice A nv cap ∧ Segs W c l ∧ (∀ s ∈ l, SgIn s) ∧ nv ≤ cap ∧ cap ≤ maxLen := by
  rcases open_slice Try.underlying23 h with ⟨h1, _⟩ | ⟨a, len, cap, m, n, D, Pl, hcs, _, hl, hm, hmm, _, hat⟩
  · simp only [List.cons.injEq, and_true] at h1
    subst h1
    exact ⟨none, 0, 0, [], rfl, .inl ⟨rfl, .inl rfl⟩, fun x h => by simp at h, Nat.le_refl _, by unfold maxLen; omega⟩
  · simp only [List.cons.injEq, and_true] at hcs
    subst hcs
    have hlm : len ≤ m := by rw [hmm]; split <;> omega
    have cells : ∀ i, i < len → ∃ s : Sg, SgIn s ∧ W.cell? (a.add (i * 4)) = some (.int .u64 s.a) ∧ W.cell? (a.add (i * 4 + 1)) = some (.int .i64 s.p) ∧ W.cell? (a.add (i * 4 + 2)) = some (.string s.d) ∧ W.cell? (a.add (i * 4 + 3)) = some (.int .u64 s.z) := fun i hi => by
      obtain ⟨cs', hc, ht⟩ := hat i (by omega)
      rw [cellsSeg] at hc
      obtain ⟨_, hcl, hca⟩ := World.cells?_some hc
      obtain ⟨ys, q, _, _, _, hg⟩ := row_of Try.underlying41 (by kernel_rfl) cellsSeg ht
      obtain ⟨c0, y0, g0, _, r0⟩ := hg 0 _ rfl
      obtain ⟨c1, y1, g1, _, r1⟩ := hg 1 _ rfl
      obtain ⟨c2, y2, g2, _, r2⟩ := hg 2 _ rfl
      obtain ⟨c3, y3, g3, _, r3⟩ := hg 3 _ rfl
      obtain ⟨x, e0, _, wx⟩ := DataW.trod_int Try.underlying22 r0
      obtain ⟨p, e1, _, wp⟩ := DataW.trod_int Try.underlying3 r1
      obtain ⟨s, e2, _, ws⟩ := DataW.trod_string Try.underlying9 r2
      obtain ⟨z, e3, _, wz⟩ := DataW.trod_int Try.underlying22 r3
      simp only [List.cons.injEq, and_true] at e0 e1 e2 e3
      subst e0 e1 e2 e3
      have k0 := hca 0 (by omega)
      have k1 := hca 1 (by omega)
      have k2 := hca 2 (by omega)
      have k3 := hca 3 (by omega)
      rw [add_add] at k0 k1 k2 k3
      have hM : maxLen = 9223372036854775807 := rfl
      exact ⟨⟨x, p, s, z⟩, ⟨bounds_u64 wx, bounds_i64 wp, bounds_u64 wz, by have := ws; simp only; omega⟩, k0.trans g0, k1.trans g1, k2.trans g2, k3.trans g3⟩
    by_cases h0 : 0 < len
    · obtain ⟨b, off, spot⟩ := a
      obtain ⟨_, _, hz0, _⟩ := cells 0 h0
      have hspot : spot = none := by simpa [Addr.add] using World.cell?_spot hz0
      subst hspot
      have hlen : ((List.range len).map (sgAt W b off)).length = len := by simp
      have hpg : ∀ i, i < len → ∃ s : Sg, SgIn s ∧ sgAt W b off i = s ∧ W.cell? ⟨b, off + i * 4, none⟩ = some (.int .u64 s.a) ∧ W.cell? ⟨b, off + i * 4 + 1, none⟩ = some (.int .i64 s.p) ∧ W.cell? ⟨b, off + i * 4 + 2, none⟩ = some (.string s.d) ∧ W.cell? ⟨b, off + i * 4 + 3, none⟩ = some (.int .u64 s.z) := fun i hi => by
        obtain ⟨s, hs, k0, k1, k2, k3⟩ := cells i hi
        rw [add_plain, ← Nat.add_assoc] at k1 k2 k3
        rw [add_plain] at k0
        exact ⟨s, hs, by unfold sgAt; rw [k0, k1, k2, k3], k0, k1, k2, k3⟩
      have hmem : ∀ q ∈ (List.range len).map (sgAt W b off), SgIn q := fun q hq => by
        obtain ⟨i, hi, rfl⟩ := List.mem_map.1 hq
        obtain ⟨s, hs, e, _⟩ := hpg i (List.mem_range.1 hi)
        rw [e]
        exact hs
      refine ⟨_, len, cap, (List.range len).map (sgAt W b off), rfl, .inr ⟨by omega, b, off, cap, by rw [hlen], World.block_lt_of_cell? W _ hz0, fun i hi => ?_⟩, hmem, hl, hm⟩
      rw [List.getElem_map, List.getElem_range]
      obtain ⟨s, _, e, k⟩ := hpg i (by omega)
      rw [e]
      exact k
    · obtain rfl : len = 0 := by omega
      exact ⟨_, _, _, [], rfl, .inl ⟨rfl, .inr ⟨_, _, rfl⟩⟩, fun x h => by simp at h, hl, hm⟩
set_option maxRecDepth 100000 in
theorem open_image {W : World} {r : Reach} {b0 base : Nat} {spare : Nat → Bool} {held : Bool} {v : Value} {d : DataW H} {p : List MemPlace} (hv : Value.okWide Try.prog W r b0 25 v)
    (h : DataW.Trod enc Try.prog W base spare held 25 v d p) :
    ∃ (e : Nat) (A : Option Addr) (nv cap : Nat) (l : List Sg), v = .agg #[.int .u64 e, .slice A nv cap] ∧ Segs W (.slice A nv cap) l ∧ (∀ s ∈ l, SgIn s) ∧ e < 18446744073709551616 ∧ nv ≤ cap ∧ cap ≤ maxLen := by
  obtain ⟨cs, rfl, hsz⟩ := okWide_struct Try.underlying25 hv
  obtain ⟨l⟩ := cs
  match l, hsz.trans cellsImage with
  | [c0, c1], _ =>
    obtain ⟨fuel, hf⟩ := h
    obtain ⟨ys, q, _, _, _, hg⟩ := row_of Try.underlying25 (by kernel_rfl) cellsImage hf
    obtain ⟨k0, y0, g0, _, r0⟩ := hg 0 _ rfl
    obtain ⟨k1, y1, g1, _, r1⟩ := hg 1 _ rfl
    obtain rfl : c0 = k0 := Option.some.inj g0
    obtain rfl : c1 = k1 := Option.some.inj g1
    obtain ⟨e, e1, _, w1⟩ := DataW.trod_int Try.underlying22 r0
    obtain ⟨A, nv, cap, l, rfl, hS, hI, h1, h2⟩ := open_segs r1
    simp only [List.cons.injEq, and_true] at e1
    subst e1
    obtain ⟨E0, E1⟩ := bounds_u64 w1
    obtain ⟨E, rfl⟩ := Int.eq_ofNat_of_zero_le E0
    exact ⟨E, A, nv, cap, l, rfl, hS, hI, by omega, h1, h2⟩
end
end Go.Proofs.Ytpifndpbmjmglaa
