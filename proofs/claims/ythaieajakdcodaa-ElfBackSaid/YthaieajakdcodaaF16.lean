/- ElfApart: of two images that may be, and are not the same, the files are not. -/
import Derived.Test.YthaieajakdcodaaF15
namespace Go.Proofs.Ythaieajakdcodaa
open Go.RowKit

/-- an image lies in a block -/
def ImgAt (W : World) (b : Nat) (e : Nat) (A : Option Addr) (nv cap : Nat) : Prop := W.heap[b]? = some (.cells #[.int .u64 (e : Int), .slice A nv cap] 25 (0, 0))
theorem ImgAt.next {W W' : World} {b e nv cap : Nat} {A : Option Addr} (h : ImgAt W b e A nv cap) (hb : Below W.heap.size W W') : ImgAt W' b e A nv cap := (hb.block b (Array.getElem?_eq_some_iff.1 h).1).trans h
theorem ImgAt.c0 {W : World} {b e nv cap : Nat} {A : Option Addr} (h : ImgAt W b e A nv cap) : W.cell? ⟨b, 0, none⟩ = some (.int .u64 (e : Int)) := by rw [Lib.cell_of_heap h]; rfl
theorem ImgAt.c1 {W : World} {b e nv cap : Nat} {A : Option Addr} (h : ImgAt W b e A nv cap) : W.cell? ⟨b, 1, none⟩ = some (.slice A nv cap) := by rw [Lib.cell_of_heap h]; rfl
theorem two_imgs (w : World) (e e' nv nv' cap cap' : Nat) (A A' : Option Addr) (W : World) (hW : W = (w.alloc (.cells #[.int .u64 (e : Int), .slice A nv cap] 25)).alloc (.cells #[.int .u64 (e' : Int), .slice A' nv' cap'] 25)) :
    ImgAt W w.heap.size e A nv cap ∧ ImgAt W (w.heap.size + 1) e' A' nv' cap' ∧ Below w.heap.size w W := by
  subst hW
  have h1 : ImgAt (w.alloc (.cells #[.int .u64 (e : Int), .slice A nv cap] 25)) w.heap.size e A nv cap := heap_alloc_new _ _
  have h2 := heap_alloc_new (w.alloc (.cells #[.int .u64 (e : Int), .slice A nv cap] 25)) (.cells #[.int .u64 (e' : Int), .slice A' nv' cap'] 25)
  rw [World.size_alloc] at h2
  exact ⟨h1.next (balloc (Below.refl _ _) _), h2, balloc (balloc (Below.refl _ _) _) _⟩
set_option maxRecDepth 100000 in
set_option maxHeartbeats 1000000 in
theorem esame_any (e e' : Nat) (m k : List Sg) (A A' : Option Addr) (n n' cap cap' : Nat) (w : World) (hS : Segs w (.slice A n cap) m) (hS' : Segs w (.slice A' n' cap') k) (hn4 : n ≤ 1000) :
    Calls Try.prog 27 #[.agg #[.int .u64 e, .slice A n cap], .agg #[.int .u64 e', .slice A' n' cap']] w (IffPost (e = e' ∧ m = k) w) := by
  have HT := Lib.hid (two_imgs w e e' n n' cap cap' A A')
  have HQ := Lib.hid (fun (W : World) (hb : Below w.heap.size w W) => eqsegs_any m k A A' n n' cap cap' W (hS.next hb) (hS'.next hb) hn4)
  clear hS hS' hn4
  by_cases he : e = e'
  · subst he
    have t : ((e : Int) == (e : Int)) = true := by simp
    go_enter Try.func27, Try.ntmps27
    go_upto_region 1 with fail
    obtain ⟨W, hW⟩ : ∃ W, W = (w.alloc (.cells #[.int .u64 (e : Int), .slice A n cap] 25)).alloc (.cells #[.int .u64 (e : Int), .slice A' n' cap'] 25) := ⟨_, rfl⟩
    obtain ⟨h1, h2, hb⟩ := HT.out W hW
    rw [← hW]
    clear hW HT
    have HB := Lib.hid hb
    have a0 := h1.c0
    have a1 := h1.c1
    have b0 := h2.c0
    have b1 := h2.c1
    clear h1 h2 hb
    go_wp2_with fail
    refine (HQ.out _ HB.out).mono ?_
    rintro r w2 ⟨c, rfl, hc, hb⟩
    have HB2 := Lib.hid (bthen HB.out hb)
    have HC := Lib.hid hc
    clear hb hc a0 a1 b0 b1
    go_wp2_with fail
    go_ret
    exact ⟨c, rfl, by rw [HC.out]; simp, HB2.out⟩
  · have t : ((e : Int) == (e' : Int)) = false := by simp; omega
    have HF := Lib.hid (show ¬ (e = e' ∧ m = k) from fun h => he h.1)
    clear he
    go_enter Try.func27, Try.ntmps27
    go_upto_region 1 with fail
    obtain ⟨W, hW⟩ : ∃ W, W = (w.alloc (.cells #[.int .u64 (e : Int), .slice A n cap] 25)).alloc (.cells #[.int .u64 (e' : Int), .slice A' n' cap'] 25) := ⟨_, rfl⟩
    obtain ⟨h1, h2, hb⟩ := HT.out W hW
    rw [← hW]
    clear hW HT
    have HB := Lib.hid hb
    have a0 := h1.c0
    have b0 := h2.c0
    clear h1 h2 hb
    go_wp2_with fail
    go_ret
    exact IffPost.no HF.out HB.out
def apartS (e : Nat) (l : List Sg) : ByteArray := ⟨(if mayB l (e : Int) = true then fileL e l else []).toArray⟩
def apartE (e : Nat) (l : List Sg) : Int := if mayB l (e : Int) = true then 0 else 1
theorem may_parts {l : List Sg} {e : Int} (h : mayB l e = true) : l.length ≤ 4 ∧ 1 ≤ l.length ∧ ∀ s ∈ l, segB s = true := by
  unfold mayB segsB at h
  simp only [Bool.and_eq_true, decide_eq_true_eq] at h
  exact ⟨h.1.1.2, h.1.1.1, segs_all h.1.2⟩
set_option maxRecDepth 100000 in
set_option maxHeartbeats 2000000 in
theorem apart_all (e e' : Nat) (m k : List Sg) (A A' : Option Addr) (n n' cap cap' : Nat) (w : World) (hS : Segs w (.slice A n cap) m) (hS' : Segs w (.slice A' n' cap') k) (hI : ∀ s ∈ m, SgIn s) (hI' : ∀ s ∈ k, SgIn s) (he : e < 18446744073709551616) (he' : e' < 18446744073709551616) :
    Calls Try.prog 7 #[.agg #[.int .u64 e, .slice A n cap], .agg #[.int .u64 e', .slice A' n' cap']] w fun r w' => r = .returned (.bool true) ∧ Below w.heap.size w w' := by
  have HT := Lib.hid (two_imgs w e e' n n' cap cap' A A')
  have HW1 := Lib.hid (fun (W : World) (hb : Below w.heap.size w W) => ewrite_any m e A n cap W (hS.next hb) hI he)
  have HW2 := Lib.hid (fun (W : World) (hb : Below w.heap.size w W) => ewrite_any k e' A' n' cap' W (hS'.next hb) hI' he')
  have HQ := Lib.hid (fun (h : mayB m (e : Int) = true) (W : World) (hb : Below w.heap.size w W) => esame_any e e' m k A A' n n' cap cap' W (hS.next hb) (hS'.next hb) (by have := (may_parts h).1; have := hS.len; omega))
  have HINJ := Lib.hid (fun (h : mayB m (e : Int) = true) (h' : mayB k (e' : Int) = true) (hf : fileL e m = fileL e' k) => file_inj hf (fun s hs => ⟨(may_parts h).2.2 s hs, hI s hs⟩) (fun s hs => ⟨(may_parts h').2.2 s hs, hI' s hs⟩) (may_parts h).1 (may_parts h').1 he he')
  unfold WritePost at HW1 HW2
  clear hS hS' hI hI' he he'
  cases h1 : mayB m (e : Int) with
  | false =>
    rw [h1] at HW1
    simp only [Bool.false_eq_true, if_false] at HW1
    obtain ⟨s2, hs2⟩ : ∃ s : List UInt8, (if mayB k (e' : Int) = true then fileL e' k else []) = s := ⟨_, rfl⟩
    obtain ⟨x2, hx2⟩ : ∃ x : Int, (if mayB k (e' : Int) = true then (0 : Int) else 1) = x := ⟨_, rfl⟩
    rw [hs2, hx2] at HW2
    clear hs2 hx2 h1 HQ HINJ
    go_enter Try.func7, Try.ntmps7
    go_upto_region 1 with fail
    obtain ⟨W, hW⟩ : ∃ W, W = (w.alloc (.cells #[.int .u64 (e : Int), .slice A n cap] 25)).alloc (.cells #[.int .u64 (e' : Int), .slice A' n' cap'] 25) := ⟨_, rfl⟩
    obtain ⟨i1, i2, hb⟩ := HT.out W hW
    rw [← hW]
    clear hW HT
    have HB := Lib.hid hb
    have H1 := Lib.hid i1
    have H2 := Lib.hid i2
    clear i1 i2 hb
    go_wp2_with fail
    refine (eshown_any _).mono ?_
    rintro r w1 ⟨rfl, hb⟩
    have HB := Lib.hid (bthen HB.out hb)
    have H1 := Lib.hid (H1.out.next hb)
    have H2 := Lib.hid (H2.out.next hb)
    have a0 := H1.out.c0
    have a1 := H1.out.c1
    clear hb
    go_wp2_with fail
    refine (HW1.out _ HB.out).mono ?_
    rintro r w2 ⟨rfl, hb⟩
    have HB := Lib.hid (bthen HB.out hb)
    have H2 := Lib.hid (H2.out.next hb)
    have b0 := H2.out.c0
    have b1 := H2.out.c1
    clear hb a0 a1
    go_wp2_with fail
    refine (HW2.out _ HB.out).mono ?_
    rintro r w3 ⟨rfl, hb⟩
    have HB := Lib.hid (bthen HB.out hb)
    clear hb b0 b1
    go_wp2_with fail
    go_ret
    exact ⟨rfl, HB.out⟩
  | true =>
    rw [h1] at HW1
    simp only [if_true] at HW1
    cases h2 : mayB k (e' : Int) with
    | false =>
      rw [h2] at HW2
      simp only [Bool.false_eq_true, if_false] at HW2
      obtain ⟨s1, hs1⟩ : ∃ s : List UInt8, fileL e m = s := ⟨_, rfl⟩
      rw [hs1] at HW1
      clear hs1 h1 h2 HQ HINJ
      go_enter Try.func7, Try.ntmps7
      go_upto_region 1 with fail
      obtain ⟨W, hW⟩ : ∃ W, W = (w.alloc (.cells #[.int .u64 (e : Int), .slice A n cap] 25)).alloc (.cells #[.int .u64 (e' : Int), .slice A' n' cap'] 25) := ⟨_, rfl⟩
      obtain ⟨i1, i2, hb⟩ := HT.out W hW
      rw [← hW]
      clear hW HT
      have HB := Lib.hid hb
      have H1 := Lib.hid i1
      have H2 := Lib.hid i2
      clear i1 i2 hb
      go_wp2_with fail
      refine (eshown_any _).mono ?_
      rintro r w1 ⟨rfl, hb⟩
      have HB := Lib.hid (bthen HB.out hb)
      have H1 := Lib.hid (H1.out.next hb)
      have H2 := Lib.hid (H2.out.next hb)
      have a0 := H1.out.c0
      have a1 := H1.out.c1
      clear hb
      go_wp2_with fail
      refine (HW1.out _ HB.out).mono ?_
      rintro r w2 ⟨rfl, hb⟩
      have HB := Lib.hid (bthen HB.out hb)
      have H2 := Lib.hid (H2.out.next hb)
      have b0 := H2.out.c0
      have b1 := H2.out.c1
      clear hb a0 a1
      go_wp2_with fail
      refine (HW2.out _ HB.out).mono ?_
      rintro r w3 ⟨rfl, hb⟩
      have HB := Lib.hid (bthen HB.out hb)
      clear hb b0 b1
      go_wp2_with fail
      go_ret
      exact ⟨rfl, HB.out⟩
    | true =>
      rw [h2] at HW2
      simp only [if_true] at HW2
      have hq := HQ.out h1
      have HQ2 := Lib.hid hq
      have hinj := HINJ.out h1 h2
      have HEQ := Lib.hid (show ((⟨(fileL e m).toArray⟩ : ByteArray) == ⟨(fileL e' k).toArray⟩) = true ↔ (e = e' ∧ m = k) by
        rw [sba_beq]
        constructor
        · intro h
          refine hinj ?_
          have h3 := congrArg (fun b : ByteArray => b.data.toList) h
          exact h3
        · rintro ⟨rfl, rfl⟩
          rfl)
      obtain ⟨S1, hs1⟩ : ∃ s : ByteArray, (⟨(fileL e m).toArray⟩ : ByteArray) = s := ⟨_, rfl⟩
      obtain ⟨S2, hs2⟩ : ∃ s : ByteArray, (⟨(fileL e' k).toArray⟩ : ByteArray) = s := ⟨_, rfl⟩
      rw [hs1] at HW1 HEQ
      rw [hs2] at HW2 HEQ
      clear hs1 hs2 h1 h2 HQ HINJ hq hinj
      go_enter Try.func7, Try.ntmps7
      go_upto_region 1 with fail
      obtain ⟨W, hW⟩ : ∃ W, W = (w.alloc (.cells #[.int .u64 (e : Int), .slice A n cap] 25)).alloc (.cells #[.int .u64 (e' : Int), .slice A' n' cap'] 25) := ⟨_, rfl⟩
      obtain ⟨i1, i2, hb⟩ := HT.out W hW
      rw [← hW]
      clear hW HT
      have HB := Lib.hid hb
      have H1 := Lib.hid i1
      have H2 := Lib.hid i2
      clear i1 i2 hb
      go_wp2_with fail
      refine (eshown_any _).mono ?_
      rintro r w1 ⟨rfl, hb⟩
      have HB := Lib.hid (bthen HB.out hb)
      have H1 := Lib.hid (H1.out.next hb)
      have H2 := Lib.hid (H2.out.next hb)
      have a0 := H1.out.c0
      have a1 := H1.out.c1
      clear hb
      go_wp2_with fail
      refine (HW1.out _ HB.out).mono ?_
      rintro r w2 ⟨rfl, hb⟩
      have HB := Lib.hid (bthen HB.out hb)
      have H1 := Lib.hid (H1.out.next hb)
      have H2 := Lib.hid (H2.out.next hb)
      have b0 := H2.out.c0
      have b1 := H2.out.c1
      clear hb a0 a1
      go_wp2_with fail
      refine (HW2.out _ HB.out).mono ?_
      rintro r w3 ⟨rfl, hb⟩
      have HB := Lib.hid (bthen HB.out hb)
      have H1 := Lib.hid (H1.out.next hb)
      have H2 := Lib.hid (H2.out.next hb)
      have a0 := H1.out.c0
      have a1 := H1.out.c1
      have b0 := H2.out.c0
      have b1 := H2.out.c1
      clear hb
      go_wp2_with fail
      refine (HQ2.out _ HB.out).mono ?_
      rintro r w4 ⟨c, rfl, hc, hb⟩
      have HB := Lib.hid (bthen HB.out hb)
      have he : (S1 == S2) = c := by
        cases c with
        | true => exact HEQ.out.2 (hc.1 rfl)
        | false =>
          cases hs : S1 == S2 with
          | false => rfl
          | true => exact absurd (hc.2 (HEQ.out.1 hs)) (by simp)
      have hl : (S1.toList == S2.toList) = c := by rw [← beq_toListBytes]; exact he
      clear hb hc HEQ HQ2 a0 a1 b0 b1
      cases c with
      | true =>
        go_wp2_with fail
        go_ret
        exact ⟨rfl, HB.out⟩
      | false =>
        go_wp2_with fail
        go_ret
        exact ⟨rfl, HB.out⟩
end Go.Proofs.Ythaieajakdcodaa
