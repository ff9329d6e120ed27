/- Package elf: Write. -/
import Derived.Test.YtdlbhkdjcegbfaaF9
namespace Go.Proofs.Ytdlbhkdjcegbfaa
open Go.RowKit

def upN (n : Nat) : Nat := (n + 255) / 256 * 256
theorem upI_nat (n : Nat) (h : n ≤ 1000000) : upI (n : Int) = (upN n : Int) := by unfold upI upN; omega
/-- where the next segment's Data stands, and what was told so far -/
def tell2 (p : Nat × List UInt8) (g : Sg) : Nat × List UInt8 := (upN (p.1 + g.d.size), p.2 ++ tellL g p.1)
/-- the bytes with a segment's Data behind them -/
def dat2 (l : List UInt8) (g : Sg) : List UInt8 := l ++ List.replicate (padN l.length) 0 ++ g.d.data.toList
def told (e : Nat) (l : List Sg) : Nat × List UInt8 := l.foldl tell2 (upN (64 + 56 * l.length), headL e l.length)
/-- an image's file -/
def fileL (e : Nat) (l : List Sg) : List UInt8 := l.foldl dat2 (told e l).2
theorem foldl_take {α β : Type} (f : β → α → β) (b : β) (l : List α) (i : Nat) (h : i < l.length) : (l.take (i + 1)).foldl f b = f ((l.take i).foldl f b) l[i] := by
  rw [List.take_succ_eq_append_getElem h, List.foldl_append]; rfl
theorem told_bounds (a : Nat) (L : List UInt8) (l : List Sg) (hs : ∀ s ∈ l, segB s = true) : (l.foldl tell2 (a, L)).2.length = L.length + 56 * l.length ∧ (l.foldl tell2 (a, L)).1 ≤ a + 16640 * l.length := by
  induction l generalizing a L with
  | nil => simp
  | cons g t ih =>
    obtain ⟨-, -, -, -, gz, gd⟩ := segB_parts (hs g (by simp))
    have h := ih (upN (a + g.d.size)) (L ++ tellL g a) (fun s h => hs s (by simp [h]))
    rw [List.foldl_cons]
    show (t.foldl tell2 (upN (a + g.d.size), L ++ tellL g a)).2.length = _ ∧ _
    rw [h.1]
    refine ⟨?_, Nat.le_trans h.2 ?_⟩
    · rw [List.length_append, tellL_length, List.length_cons]; omega
    · rw [List.length_cons]; unfold upN; omega
theorem dat_bounds (L : List UInt8) (l : List Sg) (hs : ∀ s ∈ l, segB s = true) : (l.foldl dat2 L).length ≤ L.length + 16640 * l.length ∧ L.length ≤ (l.foldl dat2 L).length := by
  induction l generalizing L with
  | nil => simp
  | cons g t ih =>
    obtain ⟨-, -, -, -, gz, gd⟩ := segB_parts (hs g (by simp))
    have h := ih (dat2 L g) (fun s h => hs s (by simp [h]))
    have h2 : (dat2 L g).length = L.length + padN L.length + g.d.size := by
      unfold dat2
      simp only [List.length_append, List.length_replicate]
      rfl
    have h3 : padN L.length ≤ 255 := by unfold padN; omega
    rw [List.foldl_cons, List.length_cons]
    omega
theorem Keep.segs {B b : Nat} {w w' : World} {v : Value} {l : List Sg} (h : Keep B b w w') (hS : Segs w v l) (hb : ∀ p off n c, v = .slice (some ⟨p, off, none⟩) n c → p < B) : Segs w' v l := by
  rcases hS with h1 | ⟨h1, p, off, cap, rfl, h2⟩
  · exact .inl h1
  · have hp := hb p off _ cap rfl
    refine .inr ⟨h1, p, off, cap, rfl, Nat.lt_of_lt_of_le h2.1 h.below.size, fun i hi => ?_⟩
    obtain ⟨c0, c1, c2, c3⟩ := h2.2 i hi
    have hc : ∀ j, w'.cell? ⟨p, j, none⟩ = w.cell? ⟨p, j, none⟩ := fun j => h.below.cell (p := ⟨p, j, none⟩) hp
    exact ⟨(hc _).trans c0, (hc _).trans c1, (hc _).trans c2, (hc _).trans c3⟩
theorem Segs.old {W : World} {v : Value} {l : List Sg} (h : Segs W v l) (h0 : 0 < l.length) : ∀ p off n c, v = .slice (some ⟨p, off, none⟩) n c → p < W.heap.size := by
  rcases h with ⟨rfl, _⟩ | ⟨_, b, off, cap, rfl, h2⟩
  · simp at h0
  · intro p o n c e
    cases e
    exact h2.1
def WritePost (s : List UInt8) (err : Int) (w : World) (r : Ending) (w' : World) : Prop := r = .returned (.tuple #[.string ⟨s.toArray⟩, .int .i64 err]) ∧ Below w.heap.size w w'
theorem write_no (l : List Sg) (e : Int) (A : Option Addr) (nv cap : Nat) (w : World) (hS : Segs w (.slice A nv cap) l) (hI : ∀ s ∈ l, SgIn s) (hm : mayB l e = false) :
    Calls Try.prog 53 #[.agg #[.int .u64 e, .slice A nv cap]] w (WritePost [] 1 w) := by
  have HM := Lib.hid (fun (W : World) (hb : Below w.heap.size w W) => may_any l e A nv cap W (hS.next hb) hI)
  rw [hm] at HM
  clear hS hI hm
  go_enter Try.func53, Try.ntmps53
  go_wp2_with fail
  refine (HM.out _ (balloc (Below.refl _ _) _)).mono ?_
  rintro r w1 ⟨rfl, hb⟩
  have HB := Lib.hid (bthen (balloc (Below.refl _ w) _) hb)
  clear hb
  go_wp2_with fail
  go_ret2
  exact ⟨rfl, HB.out⟩
set_option maxRecDepth 100000 in
set_option maxHeartbeats 4000000 in
theorem write_yes (l : List Sg) (e : Nat) (A : Option Addr) (nv cap : Nat) (w : World) (hS : Segs w (.slice A nv cap) l) (hI : ∀ s ∈ l, SgIn s) (he : e < 18446744073709551616) (hm : mayB l e = true) :
    Calls Try.prog 53 #[.agg #[.int .u64 e, .slice A nv cap]] w (WritePost (fileL e l) 0 w) := by
  have HM := Lib.hid (fun (W : World) (hb : Below w.heap.size w W) => may_any l e A nv cap W (hS.next hb) hI)
  rw [hm] at HM
  have hm2 := hm
  unfold mayB segsB at hm2
  simp only [Bool.and_eq_true, decide_eq_true_eq] at hm2
  have hsb := segs_all hm2.1.2
  obtain ⟨⟨⟨n1, n4⟩, -⟩, -⟩ := hm2
  have hn := hS.len
  have HSB := Lib.hid hsb
  have HN := Lib.hid hn
  have HI := Lib.hid hI
  have HS := Lib.hid hS
  have HE := Lib.hid he
  have HOLD := Lib.hid (hS.old (by omega))
  have hnv4 : (nv : Int) ≤ 4 := by omega
  have hnv1 : (1 : Int) ≤ (nv : Int) := by omega
  have hw1 : IntKind.u64.wrap (nv : Int) = nv := by rw [IntKind.wrap_u64]; omega
  have hw2 : IntKind.u64.wrap (56 * (nv : Int)) = 56 * nv := by rw [IntKind.wrap_u64]; omega
  have hw3 : IntKind.u64.wrap (64 + 56 * (nv : Int)) = 64 + 56 * nv := by rw [IntKind.wrap_u64]; omega
  have HU := Lib.hid (fun W => up_any (64 + 56 * (nv : Int)) (by omega) (by omega) W)
  rw [show (64 + 56 * (nv : Int)) = ((64 + 56 * nv : Nat) : Int) by omega, upI_nat _ (by omega), show ((64 + 56 * nv : Nat) : Int) = 64 + 56 * (nv : Int) by omega] at HU
  clear hS hI hm hsb n1 n4 hn he
  go_enter Try.func53, Try.ntmps53
  go_wp2_with fail
  refine (HM.out _ (balloc (Below.refl _ _) _)).mono ?_
  rintro r w1 ⟨rfl, hb⟩
  have hbx : w1.heap[w.heap.size]? = some (.cells #[.int .u64 (e : Int), .slice A nv cap] 25 (0, 0)) := (hb.block w.heap.size (by simp)).trans (heap_alloc_new w _)
  have HB1 := Lib.hid (bthen (balloc (Below.refl _ w) _) hb)
  have zlt : w.heap.size < w1.heap.size := (Array.getElem?_eq_some_iff.1 hbx).1
  clear hb
  obtain ⟨B, hB⟩ : ∃ B, w1.heap.size = B := ⟨_, rfl⟩
  obtain ⟨W, hW⟩ : ∃ W, w1.alloc (.cells #[.pointer none, .slice none 0 0] 149) = W := ⟨_, rfl⟩
  have hf := Fl.new w1
  rw [hB, hW] at hf
  have hbW : W.heap[w.heap.size]? = some (.cells #[.int .u64 (e : Int), .slice A nv cap] 25 (0, 0)) := by rw [← hW, Lib.alloc_old w1 _ _ zlt]; exact hbx
  have HBW := Lib.hid (show Below w.heap.size w W by rw [← hW]; exact balloc HB1.out _)
  have hsz : B ≤ W.heap.size := Nat.le_of_lt hf.lt
  have HL0 := Lib.hid (show Lies B B W [] W from ⟨hf, Keep.refl _ _ _, hsz⟩)
  have HBX := Lib.hid hbW
  rw [hB] at zlt
  have HWW := Lib.hid hW
  have HBB := Lib.hid hB
  have d0 : W.cell? ⟨w.heap.size, 0, none⟩ = some (.int .u64 (e : Int)) := by rw [Lib.cell_of_heap hbW]; rfl
  have d1 : W.cell? ⟨w.heap.size, 1, none⟩ = some (.slice A nv cap) := by rw [Lib.cell_of_heap hbW]; rfl
  clear hbx hbW hf hsz
  go_upto_region 4 with fail
  clear hW hB
  go_wp2_with fail
  refine (head_any B B e nv [] W W HL0.out ⟨HE.out, by omega⟩ (by simp)).mono ?_
  rintro r w2 ⟨rfl, hL⟩
  have HL := Lib.hid (show Lies B B W (headL e nv) w2 by simpa using hL)
  clear hL d0 d1
  have c0 := HL.out.k.block HL0.out.f HBX.out (by decide) (by decide)
  have d1 : w2.cell? ⟨w.heap.size, 1, none⟩ = some (.slice A nv cap) := by rw [Lib.cell_of_heap c0]; rfl
  clear c0
  go_wp2_with fail
  refine (HU.out _).mono ?_
  rintro r w3 ⟨rfl, rfl⟩
  go_upto_region 7 with fail
  go_loopw [5, 30] (fun av iv wr => ∃ (i a : Nat) (L : List UInt8), i ≤ nv ∧ iv = .int .i64 i ∧ av = .int .u64 a ∧ (l.take i).foldl tell2 (upN (64 + 56 * nv), headL e nv) = (a, L) ∧ Lies B B W L wr) (fun _ iv _ => nv - (intOf iv).toNat)
  case atStart => exact ⟨0, _, _, Nat.zero_le _, rfl, rfl, rfl, HL.out⟩
  case round =>
    obtain ⟨i, a, L, hi, rfl, rfl, hfold, hL⟩ := hrel
    have HLI := Lib.hid hL
    have HFO := Lib.hid hfold
    clear hL hfold
    by_cases hlt : i < nv
    · have hil : i < l.length := by have := HN.out; omega
      have hSr := HLI.out.k.segs (HS.out.next HBW.out) (fun p off n c e => by have h1 := HOLD.out p off n c e; omega)
      obtain ⟨bs, off, hA, c0, c1, c2, c3⟩ := hSr.at_ hil
      subst hA
      have hbd := told_bounds (upN (64 + 56 * nv)) (headL e nv) (l.take i) (fun s h => HSB.out s (List.mem_of_mem_take h))
      rw [HFO.out, headL_length, List.length_take, Nat.min_eq_left (by omega)] at hbd
      simp only at hbd
      have hft := foldl_take tell2 (upN (64 + 56 * nv), headL e nv) l i hil
      rw [HFO.out] at hft
      have hsg := HI.out l[i] (List.getElem_mem hil)
      have hsb := HSB.out l[i] (List.getElem_mem hil)
      obtain ⟨g, hgg⟩ : ∃ g, l[i] = g := ⟨_, rfl⟩
      rw [hgg] at c0 c1 c2 c3 hft hsg hsb
      have hup : upN (64 + 56 * nv) ≤ 512 := by unfold upN; omega
      have HT := Lib.hid (fun (X : World) (h : Lies B B X L X) => tell_any B B a g L X X h hsb hsg (by omega) (by omega))
      have HFT := Lib.hid hft
      obtain ⟨-, -, -, -, gz, gd⟩ := segB_parts hsb
      obtain ⟨ga, gp, gd', gzz⟩ := g
      simp only at c0 c1 c2 c3 gz gd
      unfold sgV at HT
      simp only at HT
      have hdw : IntKind.u64.wrap (gd'.size : Int) = gd'.size := by rw [IntKind.wrap_u64]; omega
      have haw : IntKind.u64.wrap ((a : Int) + gd'.size) = (a : Int) + gd'.size := by rw [IntKind.wrap_u64]; omega
      have HUA := Lib.hid (fun W => up_any ((a : Int) + gd'.size) (by omega) (by omega) W)
      rw [show (a : Int) + gd'.size = ((a + gd'.size : Nat) : Int) by omega, upI_nat _ (by omega), show ((a + gd'.size : Nat) : Int) = (a : Int) + gd'.size by omega] at HUA
      have HIL := Lib.hid hlt
      have i0 : (0 : Int) ≤ (i : Int) := by omega
      have i1 : (i : Int) < (nv : Int) := by omega
      have hgb : ∃ X, X = wr.alloc (.cells #[.int .u64 ga, .int .i64 gp, .string gd', .int .u64 gzz] 41) := ⟨_, rfl⟩
      obtain ⟨X, hX⟩ := hgb
      have hXb : X.heap[wr.heap.size]? = some (.cells #[.int .u64 ga, .int .i64 gp, .string gd', .int .u64 gzz] 41 (0, 0)) := by rw [hX]; exact heap_alloc_new _ _
      have HXB := Lib.hid hXb
      have HLX := Lib.hid (show Lies B B wr L X by rw [hX]; exact (HLI.out.here).alloc _)
      have HXX := Lib.hid hX
      clear hX hXb hft hsg hsb hgg hil hbd hup hSr gz gd
      go_wp2_with fail
      rw [← HXX.out]
      refine (HT.out X HLX.out.here).mono ?_
      rintro r w5 ⟨rfl, hL5⟩
      have c5 := hL5.k.block HLX.out.f HXB.out (by decide) (by decide)
      have HL5 := Lib.hid ((HLI.out.on HLX.out).on hL5)
      have k2 : w5.cell? ⟨wr.heap.size, 2, none⟩ = some (.string gd') := by rw [Lib.cell_of_heap c5]; rfl
      have hz5 := HL5.out.s
      have HNX := Lib.hid (show (l.take (i + 1)).foldl tell2 (upN (64 + 56 * nv), headL e nv) = (upN (a + gd'.size), L ++ tellL ⟨ga, gp, gd', gzz⟩ a) from HFT.out)
      clear hL5 c5 c0 c1 c2 c3
      go_wp2_with fail
      refine (HUA.out _).mono ?_
      rintro r w6 ⟨rfl, rfl⟩
      clear k2
      go_wp2_with fail
      go_roundw
      case rel => exact ⟨i + 1, _, _, HIL.out, by go_num, rfl, HNX.out, HL5.out⟩
      case measure => have := HIL.out; simp [intOf]; omega
    · have HFL := Lib.hid (show told e l = (a, L) by
        have h := HFO.out
        rw [List.take_of_length_le (by have := HN.out; omega), ← HN.out] at h
        exact h)
      have hbd := told_bounds (upN (64 + 56 * l.length)) (headL e l.length) l HSB.out
      have hlen : L.length ≤ 288 := by
        have h := hbd.1
        rw [show (l.foldl tell2 (upN (64 + 56 * l.length), headL e l.length)) = (a, L) from HFL.out, headL_length] at h
        simp only at h
        have := HN.out
        omega
      have HLE := Lib.hid hlen
      have c0 := HLI.out.k.block HL0.out.f HBX.out (by decide) (by decide)
      have d1 : wr.cell? ⟨w.heap.size, 1, none⟩ = some (.slice A nv cap) := by rw [Lib.cell_of_heap c0]; rfl
      clear c0 hbd hlen HFO
      go_wp2_with fail
      go_upto_region 13 with fail
      have HI0 := Lib.hid HLI.out
      go_loopw [48] (fun iv wr => ∃ (i : Nat) (L2 : List UInt8), i ≤ nv ∧ iv = .int .i64 i ∧ (l.take i).foldl dat2 L = L2 ∧ Lies B B W L2 wr ∧ (0 < i → Fu wr B B L2)) (fun iv _ => nv - (intOf iv).toNat)
      case atStart => exact ⟨0, L, Nat.zero_le _, rfl, rfl, HI0.out, fun h => absurd h (by omega)⟩
      case round =>
        obtain ⟨j, L2, hj, rfl, hfo2, hL2, hu2⟩ := hrel
        have HLJ := Lib.hid hL2
        have HFO2 := Lib.hid hfo2
        have HU2 := Lib.hid hu2
        clear hL2 hfo2 hu2 d1
        have hbd2 := dat_bounds L (l.take j) (fun s h => HSB.out s (List.mem_of_mem_take h))
        rw [HFO2.out, List.length_take] at hbd2
        have hL2n : L2.length ≤ 100000 := by
          have h1 := HLE.out
          have h2 := hbd2.1
          have h3 : min j l.length ≤ 4 := by omega
          omega
        have HL2N := Lib.hid hL2n
        clear hbd2 hL2n
        by_cases hjl : j < nv
        · have hil : j < l.length := by have := HN.out; omega
          have hSr := HLJ.out.k.segs (HS.out.next HBW.out) (fun p off n c e => by have h1 := HOLD.out p off n c e; omega)
          obtain ⟨bs, off, hA, c0, c1, c2, c3⟩ := hSr.at_ hil
          subst hA
          have hft := foldl_take dat2 L l j hil
          rw [HFO2.out] at hft
          have hsb := HSB.out l[j] (List.getElem_mem hil)
          obtain ⟨g, hgg⟩ : ∃ g, l[j] = g := ⟨_, rfl⟩
          rw [hgg] at c0 c1 c2 c3 hft hsb
          have HFT := Lib.hid hft
          obtain ⟨-, -, -, -, gz, gd⟩ := segB_parts hsb
          obtain ⟨ga, gp, gd', gzz⟩ := g
          simp only at c0 c1 c2 c3 gz gd
          have hgd : gd'.size ≤ 16384 := by omega
          have HGD := Lib.hid hgd
          have HIL := Lib.hid hjl
          have j0 : (0 : Int) ≤ (j : Int) := by omega
          have j1 : (j : Int) < (nv : Int) := by omega
          obtain ⟨X, hX⟩ : ∃ X, X = wr.alloc (.cells #[.int .u64 ga, .int .i64 gp, .string gd', .int .u64 gzz] 41) := ⟨_, rfl⟩
          have hXb : X.heap[wr.heap.size]? = some (.cells #[.int .u64 ga, .int .i64 gp, .string gd', .int .u64 gzz] 41 (0, 0)) := by rw [hX]; exact heap_alloc_new _ _
          have HXB := Lib.hid hXb
          have HLX := Lib.hid (show Lies B B wr L2 X by rw [hX]; exact (HLJ.out.here).alloc _)
          have HXX := Lib.hid hX
          clear hX hXb hft hsb hgg hil hSr gz gd hgd
          go_wp2_with fail
          rw [← HXX.out]
          refine (pad_any B B L2 X X HLX.out.here (by have := HL2N.out; omega)).mono ?_
          rintro r w5 ⟨rfl, hL5⟩
          have c5 := hL5.k.block HLX.out.f HXB.out (by decide) (by decide)
          have HL5 := Lib.hid ((HLJ.out.on HLX.out).on hL5)
          have k2 : w5.cell? ⟨wr.heap.size, 2, none⟩ = some (.string gd') := by rw [Lib.cell_of_heap c5]; rfl
          clear hL5 c5 c0 c1 c2 c3
          go_wp2_with fail
          refine (str_put B B (L2 ++ List.replicate (padN L2.length) 0) gd' W w5 HL5.out (by have h1 := HL2N.out; have h2 := HGD.out; rw [List.length_append, List.length_replicate]; unfold padN; omega)).mono ?_
          rintro r w6 ⟨rfl, hL6, hu6⟩
          have HL6 := Lib.hid (show Lies B B W (dat2 L2 ⟨ga, gp, gd', gzz⟩) w6 from hL6)
          have HU6 := Lib.hid (show Fu w6 B B (dat2 L2 ⟨ga, gp, gd', gzz⟩) from hu6)
          clear hL6 hu6 k2
          go_wp2_with fail
          go_roundw
          case rel => exact ⟨j + 1, _, HIL.out, by go_num, HFT.out, HL6.out, fun _ => HU6.out⟩
          case measure => have := HIL.out; simp [intOf]; omega
        · have HFF := Lib.hid (show fileL e l = L2 by
            have h := HFO2.out
            rw [List.take_of_length_le (by have := HN.out; omega)] at h
            unfold fileL
            rw [HFL.out]
            exact h)
          have hne : L2 ≠ [] := by
            intro h0
            have hb2 := dat_bounds L l HSB.out
            have h1 := HFF.out
            unfold fileL at h1
            rw [HFL.out] at h1
            simp only at h1
            rw [h1, h0] at hb2
            have hb := (told_bounds (upN (64 + 56 * l.length)) (headL e l.length) l HSB.out).1
            rw [show (l.foldl tell2 (upN (64 + 56 * l.length), headL e l.length)) = (a, L) from HFL.out, headL_length] at hb
            simp only [List.length_nil] at hb hb2
            omega
          have hs := fstring_any B B L2 wr (HU2.out (by omega)) hne
          have HB9 := Lib.hid (show Below w.heap.size w wr from HBW.out.trans (HLJ.out.k.below.mono (by omega)))
          go_wp2_with fail
          refine hs.mono ?_
          rintro r w9 ⟨rfl, hb9⟩
          have HB10 := Lib.hid (HB9.out.trans (hb9.mono (by omega)))
          clear hb9 hs hne
          go_wp2_with fail
          go_ret2
          exact ⟨by rw [HFF.out]; rfl, HB10.out⟩
theorem ewrite_any (l : List Sg) (e : Nat) (A : Option Addr) (nv cap : Nat) (w : World) (hS : Segs w (.slice A nv cap) l) (hI : ∀ s ∈ l, SgIn s) (he : e < 18446744073709551616) :
    Calls Try.prog 53 #[.agg #[.int .u64 e, .slice A nv cap]] w (WritePost (if mayB l e = true then fileL e l else []) (if mayB l e = true then 0 else 1) w) := by
  cases hm : mayB l e with
  | false => exact write_no l e A nv cap w hS hI hm
  | true => exact write_yes l e A nv cap w hS hI he hm
end Go.Proofs.Ytdlbhkdjcegbfaa
