/- Package elf, read: a segment by its eight numbers. -/
import Derived.Test.YthaieajakdcodaaF17
import Derived.Laws.ResultCell
import Derived.Laws.Rows
namespace Go.Proofs.Ythaieajakdcodaa
open Go.RowKit

/-- the number of some bytes at a place -/
def tkN (T : ByteArray) (o n : Nat) : Int := M.num ((T.extract o T.size).data.toList.take n)
theorem tkN_ok {T : ByteArray} {o n : Nat} (h : o + n ≤ T.size) : 0 ≤ tkN T o n ∧ tkN T o n < 256 ^ n := by
  refine ⟨M.num_nonneg _, ?_⟩
  have := M.num_lt ((T.extract o T.size).data.toList.take n)
  rwa [List.length_take_of_le (by simp; omega)] at this
theorem nexto_any (T : ByteArray) (o N B : Nat) (w : World) (hB : Left w B (T.extract o T.size)) (hN : o + N ≤ T.size) (h8 : N ≤ 8) (hs : T.size < 9223372036854775808) :
    Calls Try.prog 118 #[.int .i64 N, .pointer (some ⟨B, 0, none⟩)] w fun e w' => e = .returned (.int .u64 (tkN T o N)) ∧ Took B w w' (T.extract (o + N) T.size) := by
  have hz : (T.extract o T.size).size = T.size - o := by simp
  refine (next_any (T.extract o T.size) N B w hB (by omega) h8 (by omega)).mono ?_
  rintro e w' ⟨rfl, h⟩
  refine ⟨rfl, ?_⟩
  have he : (T.extract o T.size).extract N (T.extract o T.size).size = T.extract (o + N) T.size := by
    rw [hz, ByteArray.extract_extract]
    congr 1
    omega
  rwa [he] at h
/-- what lay there lies there, but for the bytes that are still to be taken -/
structure TookA (B : Nat) (w W : World) (S : ByteArray) : Prop where
  left : Left W B S
  bel : Below B w W
  size : w.heap.size ≤ W.heap.size
  other : ∀ k, k ≠ B → k < w.heap.size → W.heap[k]? = w.heap[k]?
theorem Took.all {B : Nat} {w W : World} {S : ByteArray} (h : Took B w W S) : TookA B w W S := ⟨h.left, h.bel, Nat.le_of_eq h.size.symm, fun k hk _ => h.other k hk⟩
theorem TookA.take {B : Nat} {w W W' : World} {S S' : ByteArray} (h : TookA B w W S) (h' : Took B W W' S') : TookA B w W' S' :=
  ⟨h'.left, h.bel.trans h'.bel, by rw [h'.size]; exact h.size, fun k hk hl => (h'.other k hk).trans (h.other k hk hl)⟩
theorem TookA.new {B : Nat} {w W W' : World} {S : ByteArray} (h : TookA B w W S) (hb : Below W.heap.size W W') : TookA B w W' S := by
  have hlt : B < W.heap.size := (Array.getElem?_eq_some_iff.1 h.left).1
  refine ⟨(hb.block B hlt).trans h.left, h.bel.trans (hb.mono (by omega)), Nat.le_trans h.size hb.size, fun k hk hl => (hb.block k (by have := h.size; omega)).trans (h.other k hk hl)⟩

/-- a segment in a block -/
def SegCell (W : World) (R : Nat) (s : Sg) : Prop := W.heap[R]? = some (.cells #[.int .u64 s.a, .int .i64 s.p, .string s.d, .int .u64 s.z] 45 (0, 0))
theorem SegCell.took {W W' : World} {R B : Nat} {s : Sg} {S : ByteArray} (h : SegCell W R s) (hk : Took B W W' S) (hn : R ≠ B) : SegCell W' R s := (hk.other R hn).trans h
theorem SegCell.cells {W : World} {R : Nat} {s : Sg} (h : SegCell W R s) : W.cell? ⟨R, 0, none⟩ = some (.int .u64 s.a) ∧ W.cell? ⟨R, 1, none⟩ = some (.int .i64 s.p) ∧ W.cell? ⟨R, 2, none⟩ = some (.string s.d) ∧ W.cell? ⟨R, 3, none⟩ = some (.int .u64 s.z) := by
  refine ⟨?_, ?_, ?_, ?_⟩ <;> (rw [Lib.cell_of_heap h]; rfl)
theorem SegCell.free {W : World} {R : Nat} {s : Sg} (h : SegCell W R s) : W.frozen? ⟨R, 0, none⟩ = false ∧ W.frozen? ⟨R, 1, none⟩ = false ∧ W.frozen? ⟨R, 2, none⟩ = false ∧ W.frozen? ⟨R, 3, none⟩ = false :=
  ⟨Lib.frozen_of_heap h 0, Lib.frozen_of_heap h 1, Lib.frozen_of_heap h 2, Lib.frozen_of_heap h 3⟩
def zeroSg : Sg := ⟨0, 0, ⟨#[]⟩, 0⟩
def put4 (W : World) (R : Nat) (s : Sg) : World := (((W.setCell ⟨R, 0, none⟩ (.int .u64 s.a)).setCell ⟨R, 1, none⟩ (.int .i64 s.p)).setCell ⟨R, 2, none⟩ (.string s.d)).setCell ⟨R, 3, none⟩ (.int .u64 s.z)
theorem put4_cell {W : World} {R : Nat} {s : Sg} (h : SegCell W R s) (s' : Sg) : SegCell (put4 W R s') R s' := by
  have h1 := heap_setCell_same _ _ 0 _ _ (.int .u64 s'.a) h
  have h2 := heap_setCell_same _ _ 1 _ _ (.int .i64 s'.p) h1
  have h3 := heap_setCell_same _ _ 2 _ _ (.string s'.d) h2
  have h4 := heap_setCell_same _ _ 3 _ _ (.int .u64 s'.z) h3
  exact h4
theorem TookA.set {B R i : Nat} {w W : World} {S : ByteArray} (h : TookA B w W S) (hn : R ≠ B) (hR : w.heap.size ≤ R ∧ B ≤ R) (v : Value) : TookA B w (W.setCell ⟨R, i, none⟩ v) S := by
  have hl : B < W.heap.size := (Array.getElem?_eq_some_iff.1 h.left).1
  have hi : ∀ k, k ≠ R → (W.setCell ⟨R, i, none⟩ v).heap[k]? = W.heap[k]? := fun k hk => Below.heap_setCell _ _ _ _ (fun e => hk (by simp [e]))
  refine ⟨(hi B (Ne.symm hn)).trans h.left, ?_, by simpa [World.setCell] using h.size, fun k hk hl => (hi k (by have := hR.1; omega)).trans (h.other k hk hl)⟩
  exact h.bel.setCell (p := ⟨R, i, none⟩) (by show B ≤ R; exact hR.2) v
theorem put4_took {B R : Nat} {w W : World} {S : ByteArray} (h : TookA B w W S) (hn : R ≠ B) (hR : w.heap.size ≤ R ∧ B ≤ R) (s : Sg) : TookA B w (put4 W R s) S :=
  (((h.set hn hR _).set hn hR _).set hn hR _).set hn hR _
theorem seg_done {B R : Nat} {w W : World} {S : ByteArray} {s : Sg} (hc : SegCell W R s) (h : TookA B w W S) (hn : R ≠ B) (hR : w.heap.size ≤ R ∧ B ≤ R) (s' : Sg) : ∃ W', put4 W R s' = W' ∧ SegCell W' R s' ∧ TookA B w W' S :=
  ⟨_, rfl, put4_cell hc s', put4_took h hn hR s'⟩
theorem seg_info (s : Sg) : (Try.prog.info? 45).map (·.size) = some (#[.int .u64 s.a, .int .i64 s.p, .string s.d, .int .u64 s.z] : Array Value).size := by
  kernel_rfl
theorem results_seg {fn : Func} {p q : Tmp} (h : fn.results = #[.cell p 45, .tmp q]) (tmps : Array Value) (w : World) (R : Nat) (s : Sg) (b : Value) (hp : tmps.getD p undef = .pointer (some ⟨R, 0, none⟩)) (hq : tmps.getD q undef = b) (hM : SegCell w R s) :
    (results fn tmps).run Try.prog w = .ok (.tuple #[sgV s, b]) w := by
  have hp' : tmps[p]?.getD undef = .pointer (some ⟨R, 0, none⟩) := by simpa using hp
  have hq' : tmps[q]?.getD undef = b := by simpa using hq
  have hl := run_loadVar_row (P := Try.prog) w R _ 45 _ _ _ hM Try.underlying45 rfl (seg_info s)
  simp [results, h, hp', hq', asAddr, hl, sgV]
/-- why there is no segment there, or nought -/
def tsE (T S : ByteArray) (o : Nat) : Int := if tkN T o 4 ≠ 1 ∨ tkN T (o + 24) 8 ≠ tkN T (o + 16) 8 ∨ tkN T (o + 48) 8 ≠ 256 then 3 else if cutB S (tkN T (o + 8) 8).toNat (tkN T (o + 32) 8).toNat = true then 0 else 2
/-- the segment there -/
def tsG (T S : ByteArray) (o : Nat) : Sg := if tsE T S o = 0 then ⟨tkN T (o + 16) 8, tkN T (o + 4) 4, cutL S (tkN T (o + 8) 8).toNat (tkN T (o + 32) 8).toNat, tkN T (o + 40) 8⟩ else zeroSg
set_option maxRecDepth 100000 in
set_option maxHeartbeats 4000000 in
theorem takeSeg_any (T S : ByteArray) (o B : Nat) (w : World) (hB : Left w B (T.extract o T.size)) (hN : o + 56 ≤ T.size) (hs : T.size < 9223372036854775808) (hS : S.size < 9223372036854775808) :
    Calls Try.prog 99 #[.func (.func 118) #[] #[.pointer (some ⟨B, 0, none⟩)], .string S] w fun e w' => e = .returned (.tuple #[sgV (tsG T S o), .int .i64 (tsE T S o)]) ∧ TookA B w w' (T.extract (o + 56) T.size) := by
  obtain ⟨G, hG⟩ : ∃ G, tsG T S o = G := ⟨_, rfl⟩
  obtain ⟨E, hE⟩ : ∃ E, tsE T S o = E := ⟨_, rfl⟩
  rw [hG, hE]
  unfold tsG at hG
  rw [hE] at hG
  unfold tsE at hE
  have HG := Lib.hid hG.symm
  have HE := Lib.hid hE.symm
  clear hG hE
  have HB := Lib.hid hB
  have H0 := Lib.hid (fun (W : World) (h : Left W B (T.extract o T.size)) => nexto_any T o 4 B W h (by omega) (by omega) hs)
  have H1 := Lib.hid (fun (W : World) (h : Left W B (T.extract (o + 4) T.size)) => nexto_any T (o + 4) 4 B W h (by omega) (by omega) hs)
  have H2 := Lib.hid (fun (W : World) (h : Left W B (T.extract (o + 8) T.size)) => nexto_any T (o + 8) 8 B W h (by omega) (by omega) hs)
  have H3 := Lib.hid (fun (W : World) (h : Left W B (T.extract (o + 16) T.size)) => nexto_any T (o + 16) 8 B W h (by omega) (by omega) hs)
  have H4 := Lib.hid (fun (W : World) (h : Left W B (T.extract (o + 24) T.size)) => nexto_any T (o + 24) 8 B W h (by omega) (by omega) hs)
  have H5 := Lib.hid (fun (W : World) (h : Left W B (T.extract (o + 32) T.size)) => nexto_any T (o + 32) 8 B W h (by omega) (by omega) hs)
  have H6 := Lib.hid (fun (W : World) (h : Left W B (T.extract (o + 40) T.size)) => nexto_any T (o + 40) 8 B W h (by omega) (by omega) hs)
  have H7 := Lib.hid (fun (W : World) (h : Left W B (T.extract (o + 48) T.size)) => nexto_any T (o + 48) 8 B W h (by omega) (by omega) hs)
  have hlt : B < w.heap.size := (Array.getElem?_eq_some_iff.1 hB).1
  have HR := Lib.hid (show w.heap.size ≠ B by omega)
  clear hB
  go_enter Try.func99, Try.ntmps99
  go_upto_region 1 with fail
  obtain ⟨W, hW⟩ : ∃ W, W = w.alloc (.cells #[.int .u64 0, .int .i64 0, .string ⟨#[]⟩, .int .u64 0] 45) := ⟨_, rfl⟩
  have HC := Lib.hid (show SegCell W w.heap.size zeroSg by rw [hW]; exact heap_alloc_new _ _)
  have HT := Lib.hid (show TookA B w W (T.extract o T.size) by
    subst hW
    exact TookA.new ⟨HB.out, Below.refl _ _, Nat.le_refl _, fun k _ _ => rfl⟩ (balloc (Below.refl _ _) _))
  obtain ⟨R, hR⟩ : ∃ R, w.heap.size = R := ⟨_, rfl⟩
  rw [← hW]
  have HRW := Lib.hid (show w.heap.size ≤ R ∧ B ≤ R by omega)
  rw [hR] at HR HC ⊢
  clear hW hR
  go_wp2_with fail
  refine (H0.out _ HT.out.left).mono ?_
  rintro r w0 ⟨rfl, hb⟩
  have HC := Lib.hid (HC.out.took hb HR.out)
  have HT := Lib.hid (HT.out.take hb)
  clear hb
  go_wp2_with fail
  refine (H1.out _ HT.out.left).mono ?_
  rintro r w1 ⟨rfl, hb⟩
  have HC := Lib.hid (HC.out.took hb HR.out)
  have HT := Lib.hid (HT.out.take hb)
  clear hb
  go_wp2_with fail
  refine (H2.out _ HT.out.left).mono ?_
  rintro r w2 ⟨rfl, hb⟩
  have HC := Lib.hid (HC.out.took hb HR.out)
  have HT := Lib.hid (HT.out.take hb)
  clear hb
  go_wp2_with fail
  refine (H3.out _ HT.out.left).mono ?_
  rintro r w3 ⟨rfl, hb⟩
  have HC := Lib.hid (HC.out.took hb HR.out)
  have HT := Lib.hid (HT.out.take hb)
  clear hb
  go_wp2_with fail
  refine (H4.out _ HT.out.left).mono ?_
  rintro r w4 ⟨rfl, hb⟩
  have HC := Lib.hid (HC.out.took hb HR.out)
  have HT := Lib.hid (HT.out.take hb)
  clear hb
  go_wp2_with fail
  refine (H5.out _ HT.out.left).mono ?_
  rintro r w5 ⟨rfl, hb⟩
  have HC := Lib.hid (HC.out.took hb HR.out)
  have HT := Lib.hid (HT.out.take hb)
  clear hb
  go_wp2_with fail
  refine (H6.out _ HT.out.left).mono ?_
  rintro r w6 ⟨rfl, hb⟩
  have HC := Lib.hid (HC.out.took hb HR.out)
  have HT := Lib.hid (HT.out.take hb)
  clear hb
  go_wp2_with fail
  refine (H7.out _ HT.out.left).mono ?_
  rintro r w7 ⟨rfl, hb⟩
  have HC := Lib.hid (HC.out.took hb HR.out)
  have HT := Lib.hid (HT.out.take hb)
  clear hb
  rw [show o + 48 + 8 = o + 56 from rfl] at HT
  go_upto_region 4 with fail
  have f1 := (tkN_ok (T := T) (o := o + 4) (n := 4) (by omega))
  have f2 := (tkN_ok (T := T) (o := o + 8) (n := 8) (by omega))
  have f5 := (tkN_ok (T := T) (o := o + 32) (n := 8) (by omega))
  obtain ⟨kd, h0⟩ : ∃ x, tkN T o 4 = x := ⟨_, rfl⟩
  obtain ⟨pm, h1⟩ : ∃ x, tkN T (o + 4) 4 = x := ⟨_, rfl⟩
  obtain ⟨fr, h2⟩ : ∃ x : Nat, tkN T (o + 8) 8 = (x : Int) := Int.eq_ofNat_of_zero_le f2.1
  obtain ⟨aa, h3⟩ : ∃ x, tkN T (o + 16) 8 = x := ⟨_, rfl⟩
  obtain ⟨ag, h4⟩ : ∃ x, tkN T (o + 24) 8 = x := ⟨_, rfl⟩
  obtain ⟨nn, h5⟩ : ∃ x : Nat, tkN T (o + 32) 8 = (x : Int) := Int.eq_ofNat_of_zero_le f5.1
  obtain ⟨sz, h6⟩ : ∃ x, tkN T (o + 40) 8 = x := ⟨_, rfl⟩
  obtain ⟨la, h7⟩ : ∃ x, tkN T (o + 48) 8 = x := ⟨_, rfl⟩
  rw [h1] at f1
  rw [h2] at f2
  rw [h5] at f5
  rw [h0, h2, h3, h4, h5, h7] at HE
  rw [h1, h2, h3, h5, h6] at HG
  rw [Int.toNat_natCast, Int.toNat_natCast] at HE HG
  rw [h0, h1, h2, h3, h4, h5, h6, h7]
  have HU := Lib.hid (cut_any S fr nn w7 hS (by omega) (by omega))
  clear h0 h1 h2 h3 h4 h5 h6 h7 H0 H1 H2 H3 H4 H5 H6 H7
  obtain ⟨x0, x1, x2, x3⟩ := HC.out.cells
  obtain ⟨z0, z1, z2, z3⟩ := HC.out.free
  by_cases c0 : kd = 1
  · have e0 : (kd != 1) = false := by simpa using c0
    by_cases c1 : ag = aa
    · have e1 : (ag != aa) = false := by simpa using c1
      by_cases c2 : la = 256
      · have e2 : (la != 256) = false := by simpa using c2
        rw [if_neg (by simp [c0, c1, c2])] at HE
        cases hcut : cutB S fr nn with
        | true =>
          rw [hcut] at HE HU
          rw [if_pos rfl] at HE
          have hE := HE.out
          have hG := HG.out
          subst hE
          rw [if_pos rfl] at hG
          have HG2 := Lib.hid hG
          have ipm : IntKind.i64.wrap pm = pm := IntWalk.i64_in _ (by omega)
          clear HE HG hG
          obtain ⟨ct, hct⟩ : ∃ c, cutL S fr nn = c := ⟨_, rfl⟩
          rw [hct] at HU HG2
          clear hct hcut
          go_wp2_with fail
          refine HU.out.mono ?_
          rintro r wu ⟨rfl, rfl⟩
          go_wp2_with fail
          have hG := HG2.out
          subst hG
          obtain ⟨W8, hW8, hc8, ht8⟩ := seg_done HC.out HT.out HR.out HRW.out ⟨aa, pm, ct, sz⟩
          have hW9 : (((w7.setCell ⟨R, 0, none⟩ (.int .u64 aa)).setCell ⟨R, 1, none⟩ (.int .i64 pm)).setCell ⟨R, 2, none⟩ (.string ct)).setCell ⟨R, 3, none⟩ (.int .u64 sz) = W8 := hW8
          rw [hW9]
          exact bodyPost_ret (results_seg Try.results99 _ _ _ _ _ rfl rfl hc8) rfl ⟨rfl, ht8⟩
        | false =>
          rw [hcut] at HE HU
          rw [if_neg (by decide)] at HE
          have hE := HE.out
          have hG := HG.out
          subst hE
          rw [if_neg (by decide)] at hG
          subst hG
          clear HE HG hcut
          go_wp2_with fail
          refine HU.out.mono ?_
          rintro r wu ⟨rfl, rfl⟩
          go_wp2_with fail
          obtain ⟨W8, hW8, hc8, ht8⟩ := seg_done HC.out HT.out HR.out HRW.out zeroSg
          have hW9 : (((w7.setCell ⟨R, 0, none⟩ (.int .u64 0)).setCell ⟨R, 1, none⟩ (.int .i64 0)).setCell ⟨R, 2, none⟩ (.string ⟨#[]⟩)).setCell ⟨R, 3, none⟩ (.int .u64 0) = W8 := hW8
          rw [hW9]
          exact bodyPost_ret (results_seg Try.results99 _ _ _ _ _ rfl rfl hc8) rfl ⟨rfl, ht8⟩
      · have e2 : (la != 256) = true := by simpa using c2
        rw [if_pos (Or.inr (Or.inr c2))] at HE
        have hE := HE.out
        have hG := HG.out
        subst hE
        rw [if_neg (by decide)] at hG
        subst hG
        clear HU HE HG
        go_wp2_with fail
        obtain ⟨W8, hW8, hc8, ht8⟩ := seg_done HC.out HT.out HR.out HRW.out zeroSg
        have hW9 : (((w7.setCell ⟨R, 0, none⟩ (.int .u64 0)).setCell ⟨R, 1, none⟩ (.int .i64 0)).setCell ⟨R, 2, none⟩ (.string ⟨#[]⟩)).setCell ⟨R, 3, none⟩ (.int .u64 0) = W8 := hW8
        rw [hW9]
        exact bodyPost_ret (results_seg Try.results99 _ _ _ _ _ rfl rfl hc8) rfl ⟨rfl, ht8⟩
    · have e1 : (ag != aa) = true := by simpa using c1
      rw [if_pos (Or.inr (Or.inl c1))] at HE
      have hE := HE.out
      have hG := HG.out
      subst hE
      rw [if_neg (by decide)] at hG
      subst hG
      clear HU HE HG
      go_wp2_with fail
      obtain ⟨W8, hW8, hc8, ht8⟩ := seg_done HC.out HT.out HR.out HRW.out zeroSg
      have hW9 : (((w7.setCell ⟨R, 0, none⟩ (.int .u64 0)).setCell ⟨R, 1, none⟩ (.int .i64 0)).setCell ⟨R, 2, none⟩ (.string ⟨#[]⟩)).setCell ⟨R, 3, none⟩ (.int .u64 0) = W8 := hW8
      rw [hW9]
      exact bodyPost_ret (results_seg Try.results99 _ _ _ _ _ rfl rfl hc8) rfl ⟨rfl, ht8⟩
  · have e0 : (kd != 1) = true := by simpa using c0
    rw [if_pos (Or.inl c0)] at HE
    have hE := HE.out
    have hG := HG.out
    subst hE
    rw [if_neg (by decide)] at hG
    subst hG
    clear HU HE HG
    go_wp2_with fail
    obtain ⟨W8, hW8, hc8, ht8⟩ := seg_done HC.out HT.out HR.out HRW.out zeroSg
    have hW9 : (((w7.setCell ⟨R, 0, none⟩ (.int .u64 0)).setCell ⟨R, 1, none⟩ (.int .i64 0)).setCell ⟨R, 2, none⟩ (.string ⟨#[]⟩)).setCell ⟨R, 3, none⟩ (.int .u64 0) = W8 := hW8
    rw [hW9]
    exact bodyPost_ret (results_seg Try.results99 _ _ _ _ _ rfl rfl hc8) rfl ⟨rfl, ht8⟩
end Go.Proofs.Ythaieajakdcodaa
