/- Package elf: Read. -/
import Derived.Test.YthaieajakdcodaaF20
namespace Go.Proofs.Ythaieajakdcodaa
open Go.RowKit

theorem img_info (e : Nat) (v : Value) : (Try.prog.info? 25).map (·.size) = some (#[.int .u64 (e : Int), v] : Array Value).size := by
  kernel_rfl
/-- an image's cells in a block -/
def ImgC (W : World) (R : Nat) (e : Nat) (v : Value) : Prop := W.heap[R]? = some (.cells #[.int .u64 (e : Int), v] 25 (0, 0))
theorem ImgC.next {W W' : World} {R e : Nat} {v : Value} (h : ImgC W R e v) (hb : Below W.heap.size W W') : ImgC W' R e v := (hb.block R (Array.getElem?_eq_some_iff.1 h).1).trans h
theorem ImgC.cells {W : World} {R e : Nat} {v : Value} (h : ImgC W R e v) : W.cell? ⟨R, 0, none⟩ = some (.int .u64 (e : Int)) ∧ W.cell? ⟨R, 1, none⟩ = some v ∧ W.frozen? ⟨R, 0, none⟩ = false ∧ W.frozen? ⟨R, 1, none⟩ = false :=
  ⟨by rw [Lib.cell_of_heap h]; rfl, by rw [Lib.cell_of_heap h]; rfl, Lib.frozen_of_heap h 0, Lib.frozen_of_heap h 1⟩
theorem results_img {fn : Func} {p q : Tmp} (h : fn.results = #[.cell p 25, .tmp q]) (tmps : Array Value) (w : World) (R e : Nat) (v b : Value) (hp : tmps.getD p undef = .pointer (some ⟨R, 0, none⟩)) (hq : tmps.getD q undef = b) (hM : ImgC w R e v) :
    (results fn tmps).run Try.prog w = .ok (.tuple #[.agg #[.int .u64 (e : Int), v], b]) w := by
  have hp' : tmps[p]?.getD undef = .pointer (some ⟨R, 0, none⟩) := by simpa using hp
  have hq' : tmps[q]?.getD undef = b := by simpa using hq
  have hl := run_loadVar_row (P := Try.prog) w R _ 25 _ _ _ hM Try.underlying25 rfl (img_info e v)
  simp [results, h, hp', hq', asAddr, hl]
def put2 (W : World) (R : Nat) (e : Nat) (v : Value) : World := (W.setCell ⟨R, 0, none⟩ (.int .u64 (e : Int))).setCell ⟨R, 1, none⟩ v
theorem put2_done {W w : World} {R e0 : Nat} {v0 : Value} (h : ImgC W R e0 v0) (hb : Below w.heap.size w W) (hR : w.heap.size ≤ R) (e : Nat) (v : Value) : ∃ W', put2 W R e v = W' ∧ ImgC W' R e v ∧ Below w.heap.size w W' ∧ ∀ k, k ≠ R → W'.heap[k]? = W.heap[k]? := by
  have h1 := heap_setCell_same _ _ 0 _ _ (.int .u64 (e : Int)) h
  have h2 := heap_setCell_same _ _ 1 _ _ v h1
  refine ⟨_, rfl, h2, (hb.setCell (p := ⟨R, 0, none⟩) hR _).setCell (p := ⟨R, 1, none⟩) hR _, fun k hk => ?_⟩
  unfold put2
  rw [heap_setCell_other _ _ k _ hk, heap_setCell_other _ _ k _ hk]

theorem Segs.of_ne {W W' : World} {v v' : Value} {l : List Sg} {R e : Nat} (h : Segs W v l) (hC : ImgC W R e v') (hk : ∀ k, k ≠ R → W'.heap[k]? = W.heap[k]?) : Segs W' v l := by
  rcases h with h | ⟨h0, b, off, cap, rfl, h2⟩
  · exact .inl h
  · have hb : b ≠ R := by
      intro e
      subst e
      have h3 := (h2.2 0 h0).2.2.1
      rw [Lib.cell_of_heap hC] at h3
      have h4 := (Array.getElem?_eq_some_iff.1 h3).1
      simp at h4
      omega
    refine .inr ⟨h0, b, off, cap, rfl, ?_, fun i hi => ?_⟩
    · have h3 : b < W.heap.size := h2.1
      have h4 : W'.heap[b]? = some W.heap[b] := (hk b hb).trans (Array.getElem?_eq_getElem h3)
      exact (Array.getElem?_eq_some_iff.1 h4).1
    · obtain ⟨c0, c1, c2, c3⟩ := h2.2 i hi
      exact ⟨(World.cell?_of_block (hk b hb)).trans c0, (World.cell?_of_block (hk b hb)).trans c1, (World.cell?_of_block (hk b hb)).trans c2, (World.cell?_of_block (hk b hb)).trans c3⟩
/-- the entry, how many segments, where they are told -/
def rdN (S : ByteArray) : Nat := (tkN S 24 8).toNat
def rdC (S : ByteArray) : Nat := (tkN S 56 2).toNat
def rdL (S : ByteArray) : List Sg := tsL (S.extract 64 S.size) S (rdC S)
def rdF (S : ByteArray) : Int := tsF (S.extract 64 S.size) S (rdC S)
/-- why it isn't a file, or nought -/
def rdE (S : ByteArray) : Int := if thE S ≠ 0 then thE S else if rdF S ≠ 0 then rdF S else if mayB (rdL S) (rdN S : Int) = true then 0 else 3
theorem thE_ok {S : ByteArray} (h : thE S = 0) : 64 ≤ S.size ∧ (tkN S 24 8 = (rdN S : Int) ∧ rdN S < 18446744073709551616) ∧ (tkN S 56 2 = (rdC S : Int) ∧ rdC S ≤ 4) ∧ 64 + 56 * rdC S ≤ S.size := by
  unfold thE at h
  split at h
  · cases h
  · split at h
    · cases h
    · split at h
      · cases h
      · split at h
        · cases h
        · have f1 := (tkN_ok (T := S) (o := 24) (n := 8) (by omega))
          have f2 := (tkN_ok (T := S) (o := 56) (n := 2) (by omega))
          unfold rdN rdC
          refine ⟨by omega, ⟨by omega, by omega⟩, ⟨by omega, by omega⟩, by omega⟩
theorem cutL_size (S : ByteArray) (f n : Nat) : (cutL S f n).size ≤ S.size := by
  unfold cutL
  split
  · simp; omega
  · exact Nat.zero_le _
theorem tsG_in {T S : ByteArray} {o : Nat} (hT : o + 56 ≤ T.size) (hS : S.size < 9223372036854775808) : SgIn (tsG T S o) := by
  unfold tsG
  split
  · have f1 := (tkN_ok (T := T) (o := o + 4) (n := 4) (by omega))
    have f2 := (tkN_ok (T := T) (o := o + 16) (n := 8) (by omega))
    have f3 := (tkN_ok (T := T) (o := o + 40) (n := 8) (by omega))
    have f4 := cutL_size S (tkN T (o + 8) 8).toNat (tkN T (o + 32) 8).toNat
    exact ⟨by constructor <;> simp only <;> omega, by constructor <;> simp only <;> omega, by constructor <;> simp only <;> omega, by simp only; omega⟩
  · exact ⟨by decide, by decide, by decide, by decide⟩
theorem rdL_in {S : ByteArray} (hT : 64 + 56 * rdC S ≤ S.size) (hS : S.size < 9223372036854775808) : ∀ s ∈ rdL S, SgIn s := by
  intro s hs
  unfold rdL tsL at hs
  obtain ⟨i, hi, rfl⟩ := List.mem_map.1 hs
  have := List.mem_range.1 hi
  exact tsG_in (by simp; omega) hS
def RdPost (S : ByteArray) (w : World) (e : Ending) (w' : World) : Prop :=
  (∃ v, e = .returned (.tuple #[.agg #[.int .u64 ((if rdE S = 0 then rdN S else 0 : Nat) : Int), v], .int .i64 (rdE S)]) ∧ (rdE S = 0 → Segs w' v (rdL S)) ∧ (rdE S ≠ 0 → v = .slice none 0 0)) ∧ Below w.heap.size w w'
theorem RdPost.no {S : ByteArray} {w w' : World} {E : Int} (h : rdE S = E) (h0 : E ≠ 0) (hb : Below w.heap.size w w') : RdPost S w (.returned (.tuple #[.agg #[.int .u64 ((0 : Nat) : Int), .slice none 0 0], .int .i64 E])) w' := by
  subst h
  exact ⟨⟨_, by rw [if_neg h0], fun h => absurd h h0, fun _ => rfl⟩, hb⟩
theorem RdPost.yes {S : ByteArray} {w w' : World} {v : Value} (h : rdE S = 0) (hs : Segs w' v (rdL S)) (hb : Below w.heap.size w w') : RdPost S w (.returned (.tuple #[.agg #[.int .u64 (rdN S : Int), v], .int .i64 0])) w' := by
  refine ⟨⟨v, by rw [h]; simp, fun _ => hs, fun h' => absurd h h'⟩, hb⟩

set_option maxRecDepth 100000 in
set_option maxHeartbeats 4000000 in
theorem read_any (S : ByteArray) (w : World) (hS : S.size < 9223372036854775808) :
    Calls Try.prog 24 #[.string S] w (RdPost S w) := by
  have HH := Lib.hid (fun W => takeHead_any S W hS)
  have HNO := Lib.hid (fun (E : Int) (h : rdE S = E) (h0 : E ≠ 0) (w' : World) (hb : Below w.heap.size w w') => RdPost.no h h0 hb)
  go_enter Try.func24, Try.ntmps24
  go_upto_region 1 with fail
  obtain ⟨W, hW⟩ : ∃ W, W = w.alloc (.cells #[.int .u64 0, .slice none 0 0] 25) := ⟨_, rfl⟩
  have HC := Lib.hid (show ImgC W w.heap.size 0 (.slice none 0 0) by rw [hW]; exact heap_alloc_new _ _)
  have HB := Lib.hid (show Below w.heap.size w W by rw [hW]; exact balloc (Below.refl _ _) _)
  rw [← hW]
  clear hW
  go_wp2_with fail
  refine (HH.out _).mono ?_
  rintro r w1 ⟨rfl, hb⟩
  have HC := Lib.hid (HC.out.next hb)
  have HB := Lib.hid (bthen HB.out hb)
  clear hb HH
  by_cases h0 : thE S = 0
  · obtain ⟨h64, ⟨t1, n1⟩, ⟨t2, n2⟩, hsz⟩ := thE_ok h0
    rw [h0, if_pos rfl, if_pos rfl, t1, t2]
    have HTS := Lib.hid (fun (W : World) => takeSegs_any (S.extract 64 S.size) S (rdC S) W n2 (by simp; omega) (by simp; omega) hS)
    have HIN := Lib.hid (rdL_in hsz hS)
    have HRE := Lib.hid (show rdE S = if rdF S ≠ 0 then rdF S else if mayB (rdL S) (rdN S : Int) = true then 0 else 3 by rw [rdE, if_neg (by simpa using h0)])
    have HYES := Lib.hid (fun (v : Value) (w' : World) (h : rdE S = 0) (hs : Segs w' v (rdL S)) (hb : Below w.heap.size w w') => RdPost.yes (S := S) h hs hb)
    obtain ⟨z, hz⟩ : ∃ z, S.size = z := ⟨_, rfl⟩
    rw [hz] at HTS
    have i64 : (64 : Int) ≤ (z : Int) := by omega
    obtain ⟨en, hen⟩ : ∃ n, rdN S = n := ⟨_, rfl⟩
    obtain ⟨ct, hct⟩ : ∃ n, rdC S = n := ⟨_, rfl⟩
    have HEN := Lib.hid hen
    rw [hct] at HTS
    rw [hen] at HRE HYES
    rw [hen, hct]
    have HPF := Lib.hid (show tsF (S.extract 64 z) S ct = rdF S by rw [rdF, hct, hz])
    have HPL := Lib.hid (show tsL (S.extract 64 z) S ct = rdL S by rw [rdL, hct, hz])
    clear h64 t1 n1 t2 n2 hsz hen hct h0
    go_wp2_with fail
    refine (HTS.out _).mono ?_
    rintro r w2 ⟨⟨v, rfl, hs1, hs2⟩, hb⟩
    rw [HPF.out] at hs1 hs2 ⊢
    rw [HPL.out] at hs1
    have HC := Lib.hid (HC.out.next hb)
    have HB := Lib.hid (bthen HB.out hb)
    have HS1 := Lib.hid hs1
    clear HTS hb hs1
    obtain ⟨F, hF⟩ : ∃ F, rdF S = F := ⟨_, rfl⟩
    rw [hF] at hs2 HS1 HRE ⊢
    clear hF HPF HPL
    by_cases hF0 : F = 0
    · subst hF0
      obtain ⟨A, cap, rfl⟩ := (HS1.out rfl).slice
      have HSG := Lib.hid (HS1.out rfl)
      obtain ⟨nv, hnv⟩ : ∃ n, (rdL S).length = n := ⟨_, rfl⟩
      rw [hnv] at HSG ⊢
      have HM := Lib.hid (fun (W : World) (hb : Below w2.heap.size w2 W) => may_any (rdL S) en A nv cap W (HSG.out.next hb) HIN.out)
      have HRE := Lib.hid (show rdE S = if mayB (rdL S) (en : Int) = true then 0 else 3 by rw [HRE.out, if_neg (by decide)])
      clear hs2 HS1 hnv
      go_wp2_with fail
      refine (HM.out _ (balloc (Below.refl _ _) _)).mono ?_
      rintro r w3 ⟨rfl, hb⟩
      have HX := Lib.hid (show ImgC w3 w2.heap.size en (.slice A nv cap) from ImgC.next (heap_alloc_new _ _) hb)
      have hab := bthen (balloc (Below.refl w2.heap.size w2) (.cells #[.int .u64 (en : Int), .slice A nv cap] 25)) hb
      have HC := Lib.hid (HC.out.next hab)
      have HS3 := Lib.hid (HSG.out.next hab)
      have HB := Lib.hid (bthen HB.out hab)
      obtain ⟨c0, c1, z0, z1⟩ := HC.out.cells
      obtain ⟨d0, d1, -, -⟩ := HX.out.cells
      clear hb hab HM HSG
      cases hm : mayB (rdL S) (en : Int) with
      | true =>
        have HE := Lib.hid (show rdE S = 0 by rw [HRE.out, hm]; rfl)
        clear HRE hm
        go_wp2_with fail
        obtain ⟨W8, hW8, hc8, hb8, hk8⟩ := put2_done HC.out HB.out (Nat.le_refl _) en (.slice A nv cap)
        have hW9 : (w3.setCell ⟨w.heap.size, 0, none⟩ (.int .u64 (en : Int))).setCell ⟨w.heap.size, 1, none⟩ (.slice A nv cap) = W8 := hW8
        rw [hW9]
        refine bodyPost_ret (results_img Try.results24 _ _ _ _ _ _ rfl rfl hc8) rfl (HYES.out _ _ HE.out ?_ hb8)
        exact HS3.out.of_ne HC.out hk8
      | false =>
        have HE := Lib.hid (show rdE S = 3 by rw [HRE.out, hm]; rfl)
        clear HRE hm
        go_wp2_with fail
        obtain ⟨W8, hW8, hc8, hb8, -⟩ := put2_done HC.out HB.out (Nat.le_refl _) 0 (.slice none 0 0)
        have hW9 : (w3.setCell ⟨w.heap.size, 0, none⟩ (.int .u64 0)).setCell ⟨w.heap.size, 1, none⟩ (.slice none 0 0) = W8 := hW8
        rw [hW9]
        exact bodyPost_ret (results_img Try.results24 _ _ _ _ _ _ rfl rfl hc8) rfl (HNO.out 3 HE.out (by decide) _ hb8)
    · obtain rfl := hs2 hF0
      have HE := Lib.hid (show rdE S = F by rw [HRE.out, if_pos hF0])
      have HE0 := Lib.hid hF0
      have q : (F != 0) = true := by simpa using hF0
      clear hs2 HS1 HRE hF0
      obtain ⟨c0, c1, z0, z1⟩ := HC.out.cells
      go_wp2_with fail
      obtain ⟨W8, hW8, hc8, hb8, -⟩ := put2_done HC.out HB.out (Nat.le_refl _) 0 (.slice none 0 0)
      have hW9 : (w2.setCell ⟨w.heap.size, 0, none⟩ (.int .u64 0)).setCell ⟨w.heap.size, 1, none⟩ (.slice none 0 0) = W8 := hW8
      rw [hW9]
      exact bodyPost_ret (results_img Try.results24 _ _ _ _ _ _ rfl rfl hc8) rfl (HNO.out F HE.out HE0.out _ hb8)
  · obtain ⟨E, hE⟩ : ∃ E, thE S = E := ⟨_, rfl⟩
    have HE := Lib.hid (show rdE S = E by unfold rdE; rw [if_pos h0, hE])
    rw [hE] at h0 ⊢
    rw [if_neg h0, if_neg h0]
    have HE0 := Lib.hid h0
    have q : (E != 0) = true := by simpa using h0
    obtain ⟨c0, c1, z0, z1⟩ := HC.out.cells
    clear hE h0
    go_wp2_with fail
    obtain ⟨W8, hW8, hc8, hb8, -⟩ := put2_done HC.out HB.out (Nat.le_refl _) 0 (.slice none 0 0)
    have hW9 : (w1.setCell ⟨w.heap.size, 0, none⟩ (.int .u64 0)).setCell ⟨w.heap.size, 1, none⟩ (.slice none 0 0) = W8 := hW8
    rw [hW9]
    exact bodyPost_ret (results_img Try.results24 _ _ _ _ _ _ rfl rfl hc8) rfl (HNO.out E HE.out HE0.out _ hb8)
end Go.Proofs.Ythaieajakdcodaa
