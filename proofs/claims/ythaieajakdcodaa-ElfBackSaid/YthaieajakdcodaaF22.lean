/- Package elf: what a written file reads as (pure). -/
import Derived.Test.YthaieajakdcodaaF21
import Derived.Test.YthaieajakdcodaaF14
namespace Go.Proofs.Ythaieajakdcodaa
open Go.RowKit

theorem extract_list (F : List UInt8) (o k : Nat) : ((⟨F.toArray⟩ : ByteArray).extract o k).data.toList = (F.take k).drop o := by
  rw [ByteArray.data_extract, Array.toList_extract, List.extract_eq_take_drop, List.drop_take]
theorem tkN_list (F : List UInt8) (o n : Nat) : tkN ⟨F.toArray⟩ o n = M.num ((F.drop o).take n) := by
  unfold tkN
  rw [extract_list]
  have e : (⟨F.toArray⟩ : ByteArray).size = F.length := rfl
  rw [e, List.take_length]
theorem tkN_sub (S : ByteArray) (a o n : Nat) (h : a ≤ S.size) : tkN (S.extract a S.size) o n = tkN S (a + o) n := by
  unfold tkN
  have e : (S.extract a S.size).size = S.size - a := by simp
  rw [e, ByteArray.extract_extract]
  have e2 : min (a + (S.size - a)) S.size = S.size := by omega
  rw [e2]
theorem numsL_drop (N : Nat) : ∀ (vs : List Nat) (i : Nat) (hi : i < vs.length) (post : List UInt8), ((numsL N vs ++ post).drop (N * i)).take N = M.lowest vs[i] N
  | [], _, hi, _ => by simp at hi
  | v :: vs, 0, _, post => by
    have e : numsL N (v :: vs) = M.lowest v N ++ numsL N vs := rfl
    rw [e, Nat.mul_zero, List.drop_zero, List.append_assoc, List.take_append_of_le_length (by rw [M.lowest_length]; exact Nat.le_refl _), List.take_of_length_le (by rw [M.lowest_length]; exact Nat.le_refl _)]
    rfl
  | v :: vs, i + 1, hi, post => by
    have e : numsL N (v :: vs) = M.lowest v N ++ numsL N vs := rfl
    rw [e, List.append_assoc, show N * (i + 1) = (M.lowest v N).length + N * i by rw [M.lowest_length, Nat.mul_succ]; omega, ← List.drop_drop, List.drop_left]
    exact numsL_drop N vs i (by simpa using hi) post
/-- a number read back out of numbers laid -/
theorem num_at (N : Nat) (vs : List Nat) (i : Nat) (hi : i < vs.length) (h : vs[i] < 256 ^ N) (pre post F : List UInt8) (o : Nat) (hF : F = pre ++ (numsL N vs ++ post)) (ho : o = pre.length + N * i) : M.num ((F.drop o).take N) = ((vs[i] : Nat) : Int) := by
  subst hF ho
  rw [← List.drop_drop, List.drop_left, numsL_drop N vs i hi post, M.num_lowest, Nat.mod_eq_of_lt h]
/-- what stands in a head -/
theorem head_nums {e c : Nat} {F X : List UInt8} (hF : F = headL e c ++ X) (he : e < 18446744073709551616) (hc : c < 65536) : tkN ⟨F.toArray⟩ 24 8 = (e : Int) ∧ tkN ⟨F.toArray⟩ 56 2 = (c : Int) := by
  have p8 : (256 : Nat) ^ 8 = 18446744073709551616 := by decide
  have p2 : (256 : Nat) ^ 2 = 65536 := by decide
  rw [tkN_list, tkN_list]
  constructor
  · exact num_at 8 [e, 64, 0] 0 (by simp) (by rw [p8]; simpa using he) (ident ++ numsL 2 [2, 243] ++ numsL 4 [1]) (numsL 4 [0] ++ (numsL 2 [64, 56, c, 0, 0, 0] ++ X)) F 24 (by rw [hF]; unfold headL; simp only [List.append_assoc]) (by simp only [List.length_append, numsL_length, List.length_cons, List.length_nil]; rfl)
  · exact num_at 2 [64, 56, c, 0, 0, 0] 2 (by simp) (by rw [p2]; simpa using hc) (ident ++ numsL 2 [2, 243] ++ numsL 4 [1] ++ numsL 8 [e, 64, 0] ++ numsL 4 [0]) X F 56 (by rw [hF]; unfold headL; simp only [List.append_assoc]) (by simp only [List.length_append, numsL_length, List.length_cons, List.length_nil]; rfl)
theorem ba_list {S : ByteArray} {l : List UInt8} (h : S.data.toList = l) : S = ⟨l.toArray⟩ := by
  apply ByteArray.ext
  rw [← h]
theorem head_ok {e c : Nat} {F X : List UInt8} (hF : F = headL e c ++ X) (he : e < 18446744073709551616) (hc : c ≤ 4) (hn : 64 + 56 * c ≤ F.length) : thE ⟨F.toArray⟩ = 0 ∧ rdN ⟨F.toArray⟩ = e ∧ rdC ⟨F.toArray⟩ = c := by
  obtain ⟨h1, h2⟩ := head_nums hF he (by omega)
  have hx : (⟨F.toArray⟩ : ByteArray).extract 0 64 = ⟨(headL e c).toArray⟩ := by
    apply ba_list
    rw [extract_list, hF, List.drop_zero, List.take_append_of_le_length (by rw [headL_length]; exact Nat.le_refl _), List.take_of_length_le (by rw [headL_length]; exact Nat.le_refl _)]
  have hz : (⟨F.toArray⟩ : ByteArray).size = F.length := rfl
  refine ⟨?_, by unfold rdN; rw [h1]; rfl, by unfold rdC; rw [h2]; rfl⟩
  unfold thE
  rw [h1, h2, hx, hz, Int.toNat_natCast, Int.toNat_natCast, if_neg (by omega), if_neg (by simp), if_neg (by omega), if_neg (by omega)]
/-- what stands in a segment's telling -/
theorem tell_nums {s : Sg} {a o : Nat} {F pre X : List UInt8} (hF : F = pre ++ (tellL s a ++ X)) (ho : o = pre.length) (hs : segB s = true) (hi : SgIn s) (ha : a < 18446744073709551616) :
    tkN ⟨F.toArray⟩ o 4 = 1 ∧ tkN ⟨F.toArray⟩ (o + 4) 4 = s.p ∧ tkN ⟨F.toArray⟩ (o + 8) 8 = (a : Int) ∧ tkN ⟨F.toArray⟩ (o + 16) 8 = s.a ∧ tkN ⟨F.toArray⟩ (o + 24) 8 = s.a ∧ tkN ⟨F.toArray⟩ (o + 32) 8 = (s.d.size : Int) ∧ tkN ⟨F.toArray⟩ (o + 40) 8 = s.z ∧ tkN ⟨F.toArray⟩ (o + 48) 8 = 256 := by
  subst ho
  have p8 : (256 : Nat) ^ 8 = 18446744073709551616 := by decide
  have p4 : (256 : Nat) ^ 4 = 4294967296 := by decide
  obtain ⟨-, q2, q3, q4, q5, q6⟩ := segB_parts hs
  obtain ⟨u1, u2, -⟩ := permB_parts q3
  obtain ⟨⟨a0, a1⟩, -, ⟨z0, z1⟩, d1⟩ := hi
  simp only [tkN_list]
  have e1 : ∀ Y, tellL s a ++ Y = numsL 4 [1, s.p.toNat] ++ (numsL 8 [a, s.a.toNat, s.a.toNat, s.d.size, s.z.toNat, 256] ++ Y) := fun Y => by unfold tellL; rw [List.append_assoc]
  have e2 : F = (pre ++ numsL 4 [1, s.p.toNat]) ++ (numsL 8 [a, s.a.toNat, s.a.toNat, s.d.size, s.z.toNat, 256] ++ X) := by rw [hF, e1, List.append_assoc]
  have e3 : F = pre ++ (numsL 4 [1, s.p.toNat] ++ (numsL 8 [a, s.a.toNat, s.a.toNat, s.d.size, s.z.toNat, 256] ++ X)) := by rw [hF, e1]
  have hl : (pre ++ numsL 4 [1, s.p.toNat]).length = pre.length + 8 := by simp only [List.length_append, numsL_length, List.length_cons, List.length_nil]
  refine ⟨?_, ?_, ?_, ?_, ?_, ?_, ?_, ?_⟩
  · exact num_at 4 [1, s.p.toNat] 0 (by simp) (by rw [p4]; simp) pre _ F _ e3 (by omega)
  · rw [num_at 4 [1, s.p.toNat] 1 (by simp) (by rw [p4]; simp; omega) pre _ F _ e3 (by omega)]
    simp; omega
  · rw [num_at 8 [a, s.a.toNat, s.a.toNat, s.d.size, s.z.toNat, 256] 0 (by simp) (by rw [p8]; simp; omega) _ _ F _ e2 (by omega)]
    rfl
  · rw [num_at 8 [a, s.a.toNat, s.a.toNat, s.d.size, s.z.toNat, 256] 1 (by simp) (by rw [p8]; simp; omega) _ _ F _ e2 (by omega)]
    simp; omega
  · rw [num_at 8 [a, s.a.toNat, s.a.toNat, s.d.size, s.z.toNat, 256] 2 (by simp) (by rw [p8]; simp; omega) _ _ F _ e2 (by omega)]
    simp; omega
  · rw [num_at 8 [a, s.a.toNat, s.a.toNat, s.d.size, s.z.toNat, 256] 3 (by simp) (by rw [p8]; simp; omega) _ _ F _ e2 (by omega)]
    rfl
  · rw [num_at 8 [a, s.a.toNat, s.a.toNat, s.d.size, s.z.toNat, 256] 4 (by simp) (by rw [p8]; simp; omega) _ _ F _ e2 (by omega)]
    simp; omega
  · rw [num_at 8 [a, s.a.toNat, s.a.toNat, s.d.size, s.z.toNat, 256] 5 (by simp) (by rw [p8]; simp) _ _ F _ e2 (by omega)]
    rfl
/-- where a segment's bytes are told to lie -/
def placeA (a : Nat) : List Sg → Nat → Nat
  | [], _ => a
  | _ :: _, 0 => a
  | g :: t, i + 1 => placeA (upN (a + g.d.size)) t i
theorem tells_at : ∀ (l : List Sg) (a : Nat) (L : List UInt8) (i : Nat) (hi : i < l.length), ∃ pre post, (l.foldl tell2 (a, L)).2 = pre ++ (tellL l[i] (placeA a l i) ++ post) ∧ pre.length = L.length + 56 * i
  | [], _, _, _, hi => by simp at hi
  | g :: t, a, L, 0, _ => by
    refine ⟨L, (t.foldl tell2 (upN (a + g.d.size), [])).2, ?_, rfl⟩
    rw [List.foldl_cons]
    have h := (tell_pre t (upN (a + g.d.size)) (L ++ tellL g a)).1
    rw [List.append_assoc] at h
    exact h
  | g :: t, a, L, i + 1, hi => by
    obtain ⟨pre, post, h1, h2⟩ := tells_at t (upN (a + g.d.size)) (L ++ tellL g a) i (by simpa using hi)
    refine ⟨pre, post, h1, ?_⟩
    rw [h2, List.length_append, tellL_length]
    omega
theorem pad_up (n : Nat) : n + padN n = upN n := by unfold padN upN; omega
theorem dats_at : ∀ (l : List Sg) (L : List UInt8) (a : Nat) (_ : a = upN L.length) (i : Nat) (hi : i < l.length), ∃ pre post, l.foldl dat2 L = pre ++ (l[i].d.data.toList ++ post) ∧ pre.length = placeA a l i ∧ (i + 1 = l.length → post = [])
  | [], _, _, _, _, hi => by simp at hi
  | g :: t, L, a, ha, 0, _ => by
    obtain ⟨X, hX⟩ := dat_pre t (dat2 L g)
    refine ⟨L ++ List.replicate (padN L.length) 0, X, ?_, ?_, ?_⟩
    · rw [List.foldl_cons, hX]
      unfold dat2
      simp only [List.append_assoc]
      rfl
    · rw [List.length_append, List.length_replicate, pad_up, ← ha]
      rfl
    · intro h
      have : t = [] := List.eq_nil_of_length_eq_zero (by simpa using h.symm)
      subst this
      have h2 : (dat2 L g).length = (dat2 L g ++ X).length := congrArg List.length hX
      rw [List.length_append] at h2
      exact List.eq_nil_of_length_eq_zero (by omega)
  | g :: t, L, a, ha, i + 1, hi => by
    obtain ⟨pre, post, h1, h2, h3⟩ := dats_at t (dat2 L g) (upN (a + g.d.size)) (by
      unfold dat2
      rw [List.length_append, List.length_append, List.length_replicate, pad_up, ← ha]
      rfl) i (by simpa using hi)
    exact ⟨pre, post, h1, h2, fun h => h3 (by simpa using h)⟩
theorem placeA_lt : ∀ (l : List Sg) (a i : Nat), (∀ s ∈ l, s.d.size ≤ 16384) → i ≤ l.length → placeA a l i ≤ a + 16640 * i
  | [], a, i, _, _ => by unfold placeA; omega
  | _ :: _, a, 0, _, _ => by unfold placeA; omega
  | g :: t, a, i + 1, h, hi => by
    have h1 := placeA_lt t (upN (a + g.d.size)) i (fun s hs => h s (by simp [hs])) (by simpa using hi)
    have h2 := h g (by simp)
    show placeA (upN (a + g.d.size)) t i ≤ _
    have h3 : upN (a + g.d.size) ≤ a + g.d.size + 255 := by unfold upN; omega
    omega
theorem extract_at {F pre post : List UInt8} {d : ByteArray} {a : Nat} (hF : F = pre ++ (d.data.toList ++ post)) (ha : a = pre.length) : (⟨F.toArray⟩ : ByteArray).extract a (a + d.size) = d := by
  have hd : d.data.toList.length = d.size := rfl
  have h : ((⟨F.toArray⟩ : ByteArray).extract a (a + d.size)).data.toList = d.data.toList := by
    subst ha
    rw [extract_list, hF, List.take_length_add_append, List.drop_left, ← hd, List.take_left]
  exact ByteArray.ext (Array.toList_inj.1 h)
end Go.Proofs.Ythaieajakdcodaa
