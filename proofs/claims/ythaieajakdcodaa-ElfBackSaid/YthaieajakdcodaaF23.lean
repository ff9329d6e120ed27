/- Package elf: a written file is read as it was; a byte less is not (pure). -/
import Derived.Test.YthaieajakdcodaaF22
namespace Go.Proofs.Ythaieajakdcodaa
open Go.RowKit

theorem up_ge (n : Nat) : n ≤ upN n := by unfold upN; omega
theorem placeA_ge : ∀ (l : List Sg) (a i : Nat), a ≤ placeA a l i
  | [], a, i => by unfold placeA; omega
  | _ :: _, a, 0 => by unfold placeA; omega
  | g :: t, a, i + 1 => by
    have h1 := placeA_ge t (upN (a + g.d.size)) i
    have h2 := up_ge (a + g.d.size)
    show a ≤ placeA (upN (a + g.d.size)) t i
    omega
theorem placeA_le : ∀ (l : List Sg) (a i j : Nat) (hi : i < l.length), i < j → j < l.length → placeA a l i + l[i].d.size ≤ placeA a l j
  | [], _, _, _, hi, _, _ => by simp at hi
  | _ :: _, _, _, 0, _, h, _ => by omega
  | g :: t, a, 0, j + 1, _, _, _ => by
    have h1 := placeA_ge t (upN (a + g.d.size)) j
    have h2 := up_ge (a + g.d.size)
    show a + g.d.size ≤ placeA (upN (a + g.d.size)) t j
    omega
  | g :: t, a, i + 1, j + 1, hi, h, hj => placeA_le t (upN (a + g.d.size)) i j (by simpa using hi) (by omega) (by simpa using hj)
/-- where the first Data may lie -/
def startA (l : List Sg) : Nat := upN (64 + 56 * l.length)
/-- what may be of the segments of a file -/
structure Good (e : Nat) (l : List Sg) : Prop where
  len : l.length ≤ 4
  all : ∀ s ∈ l, segB s = true ∧ SgIn s
  e64 : e < 18446744073709551616
theorem Good.place {e : Nat} {l : List Sg} (h : Good e l) {i : Nat} (hi : i < l.length) : placeA (startA l) l i < 18446744073709551616 := by
  have h1 := placeA_lt l (startA l) i (fun s hs => by have := (segB_parts (h.all s hs).1).2.2.2.2; omega) (by omega)
  have h2 : startA l ≤ 64 + 56 * l.length + 255 := by unfold startA upN; omega
  have := h.len
  omega
theorem Good.told_len {e : Nat} {l : List Sg} (h : Good e l) : (told e l).2.length = 64 + 56 * l.length := by
  unfold told
  rw [(told_bounds _ _ l (fun s hs => (h.all s hs).1)).1, headL_length]
theorem Good.told_head {e : Nat} {l : List Sg} : ∃ X, (told e l).2 = headL e l.length ++ X := by
  unfold told
  exact ⟨_, (tell_pre l _ _).1⟩
/-- the eight numbers of a segment, in whatever begins with what is told -/
theorem Good.nums {e : Nat} {l : List Sg} (h : Good e l) {F Y : List UInt8} (hF : F = (told e l).2 ++ Y) {i : Nat} (hi : i < l.length) :
    tsE ((⟨F.toArray⟩ : ByteArray).extract 64 (⟨F.toArray⟩ : ByteArray).size) ⟨F.toArray⟩ (56 * i) = (if cutB ⟨F.toArray⟩ (placeA (startA l) l i) l[i].d.size = true then 0 else 2) ∧
    (cutB ⟨F.toArray⟩ (placeA (startA l) l i) l[i].d.size = true → tsG ((⟨F.toArray⟩ : ByteArray).extract 64 (⟨F.toArray⟩ : ByteArray).size) ⟨F.toArray⟩ (56 * i) = ⟨l[i].a, l[i].p, cutL ⟨F.toArray⟩ (placeA (startA l) l i) l[i].d.size, l[i].z⟩) := by
  obtain ⟨pre, post, h1, h2⟩ := tells_at l (startA l) (headL e l.length) i hi
  rw [headL_length] at h2
  have hlen : F.length = 64 + 56 * l.length + Y.length := by rw [hF, List.length_append, h.told_len]
  have hz : 64 ≤ (⟨F.toArray⟩ : ByteArray).size := by show 64 ≤ F.length; omega
  have hF2 : F = pre ++ (tellL l[i] (placeA (startA l) l i) ++ (post ++ Y)) := by
    rw [hF]
    unfold told
    unfold startA at h1 ⊢
    rw [h1]
    simp only [List.append_assoc]
  obtain ⟨hs, hI⟩ := h.all l[i] (List.getElem_mem hi)
  obtain ⟨n0, n1, n2, n3, n4, n5, n6, n7⟩ := tell_nums (o := 64 + 56 * i) hF2 (by omega) hs hI (h.place hi)
  have k0 : tkN ((⟨F.toArray⟩ : ByteArray).extract 64 (⟨F.toArray⟩ : ByteArray).size) (56 * i) 4 = 1 := by rw [tkN_sub _ _ _ _ hz]; exact n0
  have k1 : tkN ((⟨F.toArray⟩ : ByteArray).extract 64 (⟨F.toArray⟩ : ByteArray).size) (56 * i + 4) 4 = l[i].p := by rw [tkN_sub _ _ _ _ hz]; exact n1
  have k2 : tkN ((⟨F.toArray⟩ : ByteArray).extract 64 (⟨F.toArray⟩ : ByteArray).size) (56 * i + 8) 8 = (placeA (startA l) l i : Int) := by rw [tkN_sub _ _ _ _ hz]; exact n2
  have k3 : tkN ((⟨F.toArray⟩ : ByteArray).extract 64 (⟨F.toArray⟩ : ByteArray).size) (56 * i + 16) 8 = l[i].a := by rw [tkN_sub _ _ _ _ hz]; exact n3
  have k4 : tkN ((⟨F.toArray⟩ : ByteArray).extract 64 (⟨F.toArray⟩ : ByteArray).size) (56 * i + 24) 8 = l[i].a := by rw [tkN_sub _ _ _ _ hz]; exact n4
  have k5 : tkN ((⟨F.toArray⟩ : ByteArray).extract 64 (⟨F.toArray⟩ : ByteArray).size) (56 * i + 32) 8 = (l[i].d.size : Int) := by rw [tkN_sub _ _ _ _ hz]; exact n5
  have k6 : tkN ((⟨F.toArray⟩ : ByteArray).extract 64 (⟨F.toArray⟩ : ByteArray).size) (56 * i + 40) 8 = l[i].z := by rw [tkN_sub _ _ _ _ hz]; exact n6
  have k7 : tkN ((⟨F.toArray⟩ : ByteArray).extract 64 (⟨F.toArray⟩ : ByteArray).size) (56 * i + 48) 8 = 256 := by rw [tkN_sub _ _ _ _ hz]; exact n7
  have hE : tsE ((⟨F.toArray⟩ : ByteArray).extract 64 (⟨F.toArray⟩ : ByteArray).size) ⟨F.toArray⟩ (56 * i) = (if cutB ⟨F.toArray⟩ (placeA (startA l) l i) l[i].d.size = true then 0 else 2) := by
    unfold tsE
    rw [k0, k2, k3, k4, k5, k7, Int.toNat_natCast, Int.toNat_natCast, if_neg (by simp)]
  refine ⟨hE, fun hc => ?_⟩
  unfold tsG
  rw [hE, if_pos hc, if_pos rfl, k1, k2, k3, k5, k6, Int.toNat_natCast, Int.toNat_natCast]
theorem Good.data {e : Nat} {l : List Sg} (h : Good e l) {i : Nat} (hi : i < l.length) : ∃ pre post, fileL e l = pre ++ (l[i].d.data.toList ++ post) ∧ pre.length = placeA (startA l) l i ∧ (i + 1 = l.length → post = []) := by
  have h1 := dats_at l (told e l).2 (startA l) (by rw [h.told_len]; rfl) i hi
  exact h1
theorem Good.file_told {e : Nat} {l : List Sg} : ∃ Y, fileL e l = (told e l).2 ++ Y := dat_pre l _
/-- a written file's segments -/
theorem Good.seg {e : Nat} {l : List Sg} (h : Good e l) {i : Nat} (hi : i < l.length) :
    tsE ((⟨(fileL e l).toArray⟩ : ByteArray).extract 64 (⟨(fileL e l).toArray⟩ : ByteArray).size) ⟨(fileL e l).toArray⟩ (56 * i) = 0 ∧
    tsG ((⟨(fileL e l).toArray⟩ : ByteArray).extract 64 (⟨(fileL e l).toArray⟩ : ByteArray).size) ⟨(fileL e l).toArray⟩ (56 * i) = l[i] := by
  obtain ⟨Y, hY⟩ := Good.file_told (e := e) (l := l)
  obtain ⟨h1, h2⟩ := h.nums hY hi
  obtain ⟨pre, post, p1, p2, -⟩ := h.data hi
  have hsz : (⟨(fileL e l).toArray⟩ : ByteArray).size = (fileL e l).length := rfl
  have hdl : l[i].d.data.toList.length = l[i].d.size := rfl
  have hc : cutB ⟨(fileL e l).toArray⟩ (placeA (startA l) l i) l[i].d.size = true := by
    unfold cutB
    rw [hsz, p1, List.length_append, List.length_append, p2, hdl]
    simp only [decide_eq_true_eq]; omega
  refine ⟨by rw [h1, if_pos hc], ?_⟩
  rw [h2 hc]
  have hL : cutL ⟨(fileL e l).toArray⟩ (placeA (startA l) l i) l[i].d.size = l[i].d := by
    unfold cutL
    by_cases h0 : l[i].d.size = 0
    · rw [if_neg (by simp [h0])]
      apply ByteArray.ext
      exact (Array.eq_empty_of_size_eq_zero h0).symm
    · rw [if_pos ⟨hc, h0⟩]
      exact extract_at p1 p2.symm
  rw [hL]
theorem tsF_all {T S : ByteArray} : ∀ {c : Nat}, (∀ i, i < c → tsE T S (56 * i) = 0) → tsF T S c = 0
  | 0, _ => rfl
  | c + 1, h => by
    rw [tsF, if_pos (tsF_all (c := c) (fun i hi => h i (by omega)))]
    exact h c (by omega)
/-- a written file is read as it was -/
theorem Good.reads {e : Nat} {l : List Sg} (h : Good e l) (hm : mayB l (e : Int) = true) : rdE ⟨(fileL e l).toArray⟩ = 0 ∧ rdN ⟨(fileL e l).toArray⟩ = e ∧ rdL ⟨(fileL e l).toArray⟩ = l := by
  obtain ⟨Y, hY⟩ := Good.file_told (e := e) (l := l)
  obtain ⟨X, hX⟩ := Good.told_head (e := e) (l := l)
  have hlen : (fileL e l).length = 64 + 56 * l.length + Y.length := by rw [hY, List.length_append, h.told_len]
  obtain ⟨t0, t1, t2⟩ := head_ok (F := fileL e l) (X := X ++ Y) (by rw [hY, hX, List.append_assoc]) h.e64 h.len (by omega)
  have hF : rdF ⟨(fileL e l).toArray⟩ = 0 := by
    unfold rdF
    rw [t2]
    exact tsF_all (fun i hi => (h.seg hi).1)
  have hL : rdL ⟨(fileL e l).toArray⟩ = l := by
    unfold rdL tsL
    rw [t2]
    apply List.ext_getElem
    · simp
    · intro i h1 h2
      rw [List.getElem_map, List.getElem_range]
      exact (h.seg h2).2
  refine ⟨?_, t1, hL⟩
  unfold rdE
  rw [t0, hF, hL, t1, if_neg (by simp), if_neg (by simp), if_pos hm]
/-- a byte less is not read, if the last segment has bytes -/
theorem Good.cut {e : Nat} {l : List Sg} (h : Good e l) {k : Nat} (hk : k + 1 = l.length) (hd : (l[k]'(by omega)).d.size ≠ 0) : rdE ⟨((fileL e l).take ((fileL e l).length - 1)).toArray⟩ = 2 := by
  have hkl : k < l.length := by omega
  obtain ⟨pre, post, p1, p2, p3⟩ := h.data hkl
  obtain rfl := p3 hk
  have hdl : l[k].d.data.toList.length = l[k].d.size := rfl
  have hflen : (fileL e l).length = placeA (startA l) l k + l[k].d.size := by rw [p1, List.append_nil, List.length_append, p2, hdl]
  have hst : startA l ≤ placeA (startA l) l k := placeA_ge l _ _
  have hs2 : 64 + 56 * l.length ≤ startA l := up_ge _
  obtain ⟨Y, hY⟩ := Good.file_told (e := e) (l := l)
  obtain ⟨X, hX⟩ := Good.told_head (e := e) (l := l)
  have htl := h.told_len
  obtain ⟨F, hF⟩ : ∃ F, (fileL e l).take ((fileL e l).length - 1) = F := ⟨_, rfl⟩
  have hFl : F.length = (fileL e l).length - 1 := by rw [← hF, List.length_take]; omega
  have hFY : F = (told e l).2 ++ Y.take ((fileL e l).length - 1 - (told e l).2.length) := by
    rw [← hF]
    have hm : (told e l).2.length ≤ (fileL e l).length - 1 := by omega
    generalize (fileL e l).length - 1 = m at hm ⊢
    rw [hY, List.take_append, List.take_of_length_le (by omega)]
  rw [hF]
  obtain ⟨t0, t1, t2⟩ := head_ok (F := F) (X := X ++ Y.take ((fileL e l).length - 1 - (told e l).2.length)) (by rw [hFY, hX, List.append_assoc]) h.e64 h.len (by omega)
  have hz : (⟨F.toArray⟩ : ByteArray).size = F.length := rfl
  have hF2 : rdF ⟨F.toArray⟩ = 2 := by
    unfold rdF
    rw [t2, ← hk, tsF, if_pos (tsF_all (fun i hi => ?_))]
    · rw [(h.nums hFY hkl).1, if_neg]
      unfold cutB
      rw [hz]
      simp only [decide_eq_true_eq]; omega
    · rw [(h.nums hFY (show i < l.length by omega)).1, if_pos]
      unfold cutB
      have := placeA_le l (startA l) i k (by omega) hi hkl
      rw [hz]
      simp only [decide_eq_true_eq]; omega
  unfold rdE
  rw [t0, hF2, if_neg (by simp), if_pos (by decide)]
end Go.Proofs.Ythaieajakdcodaa
