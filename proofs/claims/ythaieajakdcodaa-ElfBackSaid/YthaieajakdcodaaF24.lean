/- ElfBack: what was written is read as it was; a byte less is not, if its last segment has bytes. -/
import Derived.Test.YthaieajakdcodaaF23
import Derived.Test.YthaieajakdcodaaF16
namespace Go.Proofs.Ythaieajakdcodaa
open Go.RowKit

theorem ImgAt.quiet {W : World} {b e nv cap : Nat} {A : Option Addr} (h : ImgAt W b e A nv cap) (q : Nat) : ImgAt (W.drewN q) b e A nv cap := h.next (drewN_below _ _)
set_option maxRecDepth 100000 in
set_option maxHeartbeats 2000000 in
theorem rsame_same (e : Nat) (m : List Sg) (A A' : Option Addr) (n cap cap' : Nat) (w : World) (hS : Segs w (.slice A n cap) m) (hS' : Segs w (.slice A' n cap') m) (hn4 : n ≤ 1000) :
    Calls Try.prog 25 #[.agg #[.int .u64 e, .slice A n cap], .agg #[.int .u64 e, .slice A' n cap']] w fun r w' => r = .returned (.bool true) ∧ Below w.heap.size w w' := by
  have HT := Lib.hid (two_imgs w e e n n cap cap' A A')
  have HN := Lib.hid hS.len
  have HS := Lib.hid hS
  have HS' := Lib.hid hS'
  have n1 : (n : Int) ≤ 1000 := by omega
  clear hS hS' hn4
  go_enter Try.func25, Try.ntmps25
  go_upto_region 1 with fail
  obtain ⟨W, hW⟩ : ∃ W, W = (w.alloc (.cells #[.int .u64 (e : Int), .slice A n cap] 25)).alloc (.cells #[.int .u64 (e : Int), .slice A' n cap'] 25) := ⟨_, rfl⟩
  obtain ⟨h1, h2, hb⟩ := HT.out W hW
  rw [← hW]
  clear hW HT
  have HB := Lib.hid hb
  have H1 := Lib.hid h1
  have H2 := Lib.hid h2
  have a0 := h1.c0
  have a1 := h1.c1
  have b0 := h2.c0
  have b1 := h2.c1
  clear h1 h2 hb
  go_wp2_with fail
  clear a0 a1 b0 b1
  go_loopw [5] (fun iv wr => ∃ i : Nat, i ≤ n ∧ iv = .int .i64 i ∧ ImgAt wr w.heap.size e A n cap ∧ ImgAt wr (w.heap.size + 1) e A' n cap' ∧ Below w.heap.size w wr) (fun iv _ => n - (intOf iv).toNat)
  case atStart => exact ⟨0, Nat.zero_le _, rfl, H1.out, H2.out, HB.out⟩
  case round =>
    obtain ⟨i, hi, rfl, h1, h2, hb⟩ := hrel
    have HB := Lib.hid hb
    have H1 := Lib.hid h1
    have H2 := Lib.hid h2
    have a1 := h1.c1
    have b1 := h2.c1
    clear hb h1 h2
    by_cases hlt : i < n
    · have hm : i < m.length := by rw [HN.out]; exact hlt
      obtain ⟨b, off, hA, e0, e1, e2, e3⟩ := (HS.out.next HB.out).at_ hm
      obtain ⟨b', off', hA', g0, g1, g2, g3⟩ := (HS'.out.next HB.out).at_ hm
      subst hA hA'
      obtain ⟨⟨xa, xp, xd, xz⟩, hx⟩ : ∃ x, m[i] = x := ⟨_, rfl⟩
      rw [hx] at e0 e1 e2 e3 g0 g1 g2 g3
      simp only at e0 e1 e2 e3 g0 g1 g2 g3
      have HLT := Lib.hid hlt
      have hk0 : (0 : Int) ≤ (i : Int) := Int.natCast_nonneg _
      have hk1 : (i : Int) < (n : Int) := by omega
      clear hx hm
      go_wp2_with fail
      go_quiet (fail)
      have HBQ := Lib.hid (below_quiet HB.out nq)
      have HQ1 := Lib.hid (H1.out.quiet nq)
      have HQ2 := Lib.hid (H2.out.quiet nq)
      clear e0 e1 e2 e3 g0 g1 g2 g3 a1 b1
      go_wp2_with fail
      go_roundw
      case rel => exact ⟨i + 1, by have := HLT.out; omega, by go_num, HQ1.out, HQ2.out, HBQ.out⟩
      case measure => have := HLT.out; simp [intOf]; omega
    · have hnlt : decide ((i : Int) < (n : Int)) = false := by simp; omega
      go_wp2_with fail
      go_ret
      exact ⟨rfl, HB.out⟩
theorem one_img (w : World) (e n cap : Nat) (A : Option Addr) (W : World) (hW : W = w.alloc (.cells #[.int .u64 (e : Int), .slice A n cap] 25)) : ImgAt W w.heap.size e A n cap ∧ Below w.heap.size w W := by
  subst hW
  exact ⟨heap_alloc_new _ _, balloc (Below.refl _ _) _⟩
theorem good_of {e : Nat} {l : List Sg} (hm : mayB l (e : Int) = true) (hI : ∀ s ∈ l, SgIn s) (he : e < 18446744073709551616) : Good e l :=
  ⟨(may_parts hm).1, fun s hs => ⟨(may_parts hm).2.2 s hs, hI s hs⟩, he⟩
theorem Good.size {e : Nat} {l : List Sg} (h : Good e l) (h1 : 1 ≤ l.length) : (fileL e l).length < 9223372036854775808 ∧ 1 ≤ (fileL e l).length := by
  obtain ⟨k, hk⟩ : ∃ k, l.length = k + 1 := ⟨l.length - 1, by omega⟩
  have hkl : k < l.length := by omega
  obtain ⟨pre, post, p1, p2, p3⟩ := h.data hkl
  obtain rfl := p3 hk.symm
  have hdl : l[k].d.data.toList.length = l[k].d.size := rfl
  have hflen : (fileL e l).length = placeA (startA l) l k + l[k].d.size := by rw [p1, List.append_nil, List.length_append, p2, hdl]
  have hst : startA l ≤ placeA (startA l) l k := placeA_ge l _ _
  have hs2 : 64 + 56 * l.length ≤ startA l := up_ge _
  have hd : ∀ s ∈ l, s.d.size ≤ 16384 := fun s hs => by have := (segB_parts (h.all s hs).1).2.2.2.2; omega
  have h2 := placeA_lt l (startA l) k hd (by omega)
  have h3 : startA l ≤ 64 + 56 * l.length + 255 := by unfold startA upN; omega
  have := h.len
  have := hd _ (List.getElem_mem hkl)
  omega
theorem cut_str (F : List UInt8) (y : Nat) : (⟨F.toArray⟩ : ByteArray).extract 0 y = ⟨(F.take y).toArray⟩ := ba_list (by rw [extract_list, List.drop_zero])
theorem read_yes {e : Nat} {l : List Sg} (hg : Good e l) (hm : mayB l (e : Int) = true) (S : ByteArray) (hS : S = ⟨(fileL e l).toArray⟩) (hz : S.size < 9223372036854775808) (w : World) :
    Calls Try.prog 24 #[.string S] w fun r w' => (∃ A cap, r = .returned (.tuple #[.agg #[.int .u64 (e : Int), .slice A l.length cap], .int .i64 0]) ∧ Segs w' (.slice A l.length cap) l) ∧ Below w.heap.size w w' := by
  obtain ⟨r1, r2, r3⟩ := hg.reads hm
  rw [← hS] at r1 r2 r3
  refine (read_any S w hz).mono ?_
  rintro r w' ⟨⟨v, rfl, h1, -⟩, hb⟩
  have hs := h1 r1
  rw [r3] at hs
  obtain ⟨A, cap, rfl⟩ := hs.slice
  refine ⟨⟨A, cap, ?_, hs⟩, hb⟩
  rw [r1, r2, if_pos rfl]
theorem read_cut {e : Nat} {l : List Sg} (hg : Good e l) {k : Nat} (hk : k + 1 = l.length) (hd : (l[k]'(by omega)).d.size ≠ 0) (S : ByteArray) (hS : S = ⟨((fileL e l).take ((fileL e l).length - 1)).toArray⟩) (hz : S.size < 9223372036854775808) (w : World) :
    Calls Try.prog 24 #[.string S] w fun r w' => r = .returned (.tuple #[.agg #[.int .u64 0, .slice none 0 0], .int .i64 2]) ∧ Below w.heap.size w w' := by
  have r1 := hg.cut hk hd
  rw [← hS] at r1
  refine (read_any S w hz).mono ?_
  rintro r w' ⟨⟨v, rfl, -, h1⟩, hb⟩
  obtain rfl := h1 (by rw [r1]; decide)
  refine ⟨?_, hb⟩
  rw [r1, if_neg (by decide)]
  rfl
set_option maxRecDepth 100000 in
set_option maxHeartbeats 2000000 in
theorem back_all (e : Nat) (m : List Sg) (A : Option Addr) (n cap : Nat) (w : World) (hS : Segs w (.slice A n cap) m) (hI : ∀ s ∈ m, SgIn s) (he : e < 18446744073709551616) :
    Calls Try.prog 4 #[.agg #[.int .u64 e, .slice A n cap]] w fun r w' => r = .returned (.bool true) ∧ Below w.heap.size w w' := by
  have HT := Lib.hid (one_img w e n cap A)
  have HW := Lib.hid (fun (W : World) (hb : Below w.heap.size w W) => ewrite_any m e A n cap W (hS.next hb) hI he)
  have HM := Lib.hid (fun (W : World) (hb : Below w.heap.size w W) => may_any m e A n cap W (hS.next hb) hI)
  have HS := Lib.hid hS
  have hlen := hS.len
  unfold WritePost at HW
  cases h1 : mayB m (e : Int) with
  | false =>
    rw [h1] at HW HM
    simp only [Bool.false_eq_true, if_false] at HW
    clear hS hI he h1 hlen HS
    go_enter Try.func4, Try.ntmps4
    go_upto_region 1 with fail
    obtain ⟨W, hW⟩ : ∃ W, W = w.alloc (.cells #[.int .u64 (e : Int), .slice A n cap] 25) := ⟨_, rfl⟩
    obtain ⟨i1, hb⟩ := HT.out W hW
    rw [← hW]
    clear hW HT
    have HB := Lib.hid hb
    have H1 := Lib.hid i1
    clear i1 hb
    go_wp2_with fail
    refine (eshown_any _).mono ?_
    rintro r w1 ⟨rfl, hb⟩
    have HB := Lib.hid (bthen HB.out hb)
    have H1 := Lib.hid (H1.out.next hb)
    have a0 := H1.out.c0
    have a1 := H1.out.c1
    clear hb
    go_wp2_with fail
    refine (HW.out _ HB.out).mono ?_
    rintro r w2 ⟨rfl, hb⟩
    have HB := Lib.hid (bthen HB.out hb)
    have H1 := Lib.hid (H1.out.next hb)
    clear hb a0 a1
    have a0 := H1.out.c0
    have a1 := H1.out.c1
    go_wp2_with fail
    refine (HM.out _ HB.out).mono ?_
    rintro r w3 ⟨rfl, hb⟩
    have HB := Lib.hid (bthen HB.out hb)
    clear hb a0 a1
    go_wp2_with fail
    go_ret
    exact ⟨rfl, HB.out⟩
  | true =>
    rw [h1] at HW
    simp only [if_true] at HW
    have hg := good_of h1 hI he
    have hm := (may_parts h1).2.1
    obtain ⟨z0, z1⟩ := hg.size hm
    obtain ⟨k, hk⟩ : ∃ k, m.length = k + 1 := ⟨m.length - 1, by omega⟩
    have hkl : k < m.length := by omega
    obtain ⟨S, hSS⟩ : ∃ S : ByteArray, (⟨(fileL e m).toArray⟩ : ByteArray) = S := ⟨_, rfl⟩
    have hSz : S.size = (fileL e m).length := by rw [← hSS]; rfl
    have HR := Lib.hid (fun W => read_yes hg h1 S hSS.symm (by omega) W)
    have HC := Lib.hid (fun (hd : m[k].d.size ≠ 0) W => read_cut hg hk.symm hd (S.extract 0 ((fileL e m).length - 1)) (by rw [← hSS, cut_str]) (by simp; omega) W)
    rw [hSS] at HW
    rw [← hSz] at HC z0 z1
    obtain ⟨z, hz⟩ : ∃ z, S.size = z := ⟨_, rfl⟩
    rw [hz] at HC z0 z1
    rw [hlen] at HR
    have hwk : IntKind.i64.wrap ((n : Int) - 1) = (k : Int) := by rw [IntWalk.i64_in _ (by have := hg.len; omega)]; omega
    obtain ⟨y, hy⟩ : ∃ y, z - 1 = y := ⟨_, rfl⟩
    rw [hy] at HC
    have hwy : IntKind.i64.wrap ((z : Int) - 1) = (y : Int) := by rw [IntWalk.i64_in _ (by omega)]; omega
    have y0 : (0 : Int) ≤ (y : Int) := by omega
    have y1 : (y : Int) ≤ (z : Int) := by omega
    have k0 : (0 : Int) ≤ (k : Int) := by omega
    have k1 : (k : Int) < (n : Int) := by omega
    have hn0 : ((n : Int) == 0) = false := by simp; omega
    have hn4 : n ≤ 1000 := by have := hg.len; omega
    have HQ := Lib.hid (fun (W : World) (A' : Option Addr) (cap' : Nat) (hb : Below w.heap.size w W) (h : Segs W (.slice A' n cap') m) => rsame_same e m A A' n cap cap' W (hS.next hb) h hn4)
    have HAT := Lib.hid (fun (W : World) (hb : Below w.heap.size w W) => (hS.next hb).at_ hkl)
    obtain ⟨⟨xa, xp, xd, xz⟩, hx⟩ : ∃ x, m[k] = x := ⟨_, rfl⟩
    rw [hx] at HAT HC
    simp only at HAT HC
    clear hS hI he h1 hlen HS HM hg hm hkl hSS hSz hx hy hk hn4 z0 z1
    go_enter Try.func4, Try.ntmps4
    go_upto_region 1 with fail
    obtain ⟨W, hW⟩ : ∃ W, W = w.alloc (.cells #[.int .u64 (e : Int), .slice A n cap] 25) := ⟨_, rfl⟩
    obtain ⟨i1, hb⟩ := HT.out W hW
    rw [← hW]
    clear hW HT
    have HB := Lib.hid hb
    have H1 := Lib.hid i1
    clear i1 hb
    go_wp2_with fail
    refine (eshown_any _).mono ?_
    rintro r w1 ⟨rfl, hb⟩
    have HB := Lib.hid (bthen HB.out hb)
    have H1 := Lib.hid (H1.out.next hb)
    have a0 := H1.out.c0
    have a1 := H1.out.c1
    clear hb
    go_wp2_with fail
    refine (HW.out _ HB.out).mono ?_
    rintro r w2 ⟨rfl, hb⟩
    have HB := Lib.hid (bthen HB.out hb)
    have H1 := Lib.hid (H1.out.next hb)
    clear hb a0 a1
    go_wp2_with fail
    refine (HR.out _).mono ?_
    rintro r w3 ⟨⟨A', cap', rfl, hs3⟩, hb⟩
    have HB := Lib.hid (bthen HB.out hb)
    have H1 := Lib.hid (H1.out.next hb)
    have hab := balloc (Below.refl w3.heap.size w3) (.cells #[.int .u64 (e : Int), .slice A' n cap'] 25)
    have H1a := Lib.hid (H1.out.next hab)
    have HBa := Lib.hid (bthen HB.out hab)
    have HSa := Lib.hid (hs3.next hab)
    have a0 := H1.out.c0
    have a1 := H1.out.c1
    have d0 := H1a.out.c0
    have d1 := H1a.out.c1
    clear hb hab hs3 HR
    go_wp2_with fail
    refine (HQ.out _ _ _ HBa.out HSa.out).mono ?_
    rintro r w4 ⟨rfl, hb⟩
    have HB := Lib.hid (bthen HBa.out hb)
    have H1 := Lib.hid (H1a.out.next hb)
    clear hb a0 a1 d0 d1 HBa HSa H1a HQ
    have a0 := H1.out.c0
    have a1 := H1.out.c1
    obtain ⟨b, off, hA, g0, g1, g2, g3⟩ := HAT.out w4 HB.out
    subst hA
    by_cases hd : xd.size = 0
    · have hd0 : ((xd.size : Int) == 0) = true := by simp [hd]
      clear hd HC
      go_wp2_with fail
      go_ret
      exact ⟨rfl, HB.out⟩
    · have hd0 : ((xd.size : Int) == 0) = false := by simpa using hd
      have HC2 := Lib.hid (HC.out hd)
      clear hd HC
      go_wp2_with fail
      refine (HC2.out _).mono ?_
      rintro r w5 ⟨rfl, hb⟩
      have HB := Lib.hid (bthen HB.out hb)
      clear hb a0 a1 g0 g1 g2 g3
      go_wp2_with fail
      go_ret
      exact ⟨rfl, balloc HB.out _⟩
end Go.Proofs.Ythaieajakdcodaa
