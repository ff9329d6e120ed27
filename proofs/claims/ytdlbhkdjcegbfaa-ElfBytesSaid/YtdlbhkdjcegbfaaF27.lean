/- Package elf: Load, of every image. -/
import Derived.Test.YtdlbhkdjcegbfaaF26
import Derived.Test.YtdlbhkdjcegbfaaF4
import Derived.Test.YtdlbhkdjcegbfaaD4
import Derived.RegionTactic
namespace Go.Proofs.Ytdlbhkdjcegbfaa
open Go.RowKit

theorem rightNil : M.Right [] := ⟨by simp, by simp, List.Pairwise.nil, by simp, by simp⟩
theorem loadE_snoc : ∀ (l : List Sg) (m : List M.Pg) (g : Sg), loadE m l = 0 → loadE m (l ++ [g]) = layE (loadF m l) g
  | [], m, g, _ => by
    show (if layE m g = 0 then (0 : Int) else layE m g) = layE m g
    by_cases h : layE m g = 0
    · rw [if_pos h, h]
    · rw [if_neg h]
  | a :: l, m, g, h => by
    unfold loadE at h
    split at h
    · rename_i h0
      show (if layE m a = 0 then loadE (layM m a) (l ++ [g]) else layE m a) = layE (if layE m a = 0 then loadF (layM m a) l else []) g
      rw [if_pos h0, if_pos h0]
      exact loadE_snoc l _ g h
    · rename_i h0; exact absurd h h0
theorem loadF_snoc : ∀ (l : List Sg) (m : List M.Pg) (g : Sg), loadE m l = 0 → layE (loadF m l) g = 0 → loadF m (l ++ [g]) = layM (loadF m l) g
  | [], m, g, _, h => by
    have h' : layE m g = 0 := h
    show (if layE m g = 0 then layM m g else []) = layM m g
    rw [if_pos h']
  | a :: l, m, g, h, h1 => by
    unfold loadE at h
    split at h
    · rename_i h0
      have e : loadF m (a :: l) = loadF (layM m a) l := by
        show (if layE m a = 0 then loadF (layM m a) l else []) = _
        rw [if_pos h0]
      rw [e] at h1 ⊢
      show (if layE m a = 0 then loadF (layM m a) (l ++ [g]) else []) = _
      rw [if_pos h0]
      exact loadF_snoc l _ g h h1
    · rename_i h0; exact absurd h h0
theorem loadE_bad : ∀ (l : List Sg) (m : List M.Pg) (g : Sg) (t : List Sg), loadE m l = 0 → layE (loadF m l) g ≠ 0 → loadE m (l ++ g :: t) = layE (loadF m l) g
  | [], m, g, t, _, h => by
    have h' : ¬ layE m g = 0 := h
    show (if layE m g = 0 then loadE (layM m g) t else layE m g) = layE m g
    rw [if_neg h']
  | a :: l, m, g, t, h, h1 => by
    unfold loadE at h
    split at h
    · rename_i h0
      have e : loadF m (a :: l) = loadF (layM m a) l := by
        show (if layE m a = 0 then loadF (layM m a) l else []) = _
        rw [if_pos h0]
      rw [e] at h1 ⊢
      show (if layE m a = 0 then loadE (layM m a) (l ++ g :: t) else layE m a) = _
      rw [if_pos h0]
      exact loadE_bad l _ g t h h1
    · rename_i h0; exact absurd h h0
/-- why there is no machine with an image, or nought -/
def ldE (l : List Sg) (e : Int) : Int := if mayB l e = true then loadE [] l else 1
/-- the machine with an image -/
def machOf (e : Int) (inp : ByteArray) (A : Option Addr) (n c : Nat) : Mc := { zeroMc with pc := e, inp := inp, ma := A, ml := n, mc := c }
/-- what Load comes to -/
def LoadPost (l : List Sg) (e : Int) (inp : ByteArray) (w : World) (r : Ending) (w' : World) : Prop :=
  ∃ k : Mc, r = .returned (.tuple #[.agg (mcells k), .int .i64 (ldE l e)]) ∧ Below w.heap.size w w' ∧ (ldE l e ≠ 0 → k = zeroMc) ∧
    (ldE l e = 0 → ∃ A n c, k = machOf e inp A n c ∧ Pages w' (.slice A n c) (loadF [] l) ∧ Cap (.slice A n c))
theorem may_ok {l : List Sg} {e : Int} (h : mayB l e = true) (hI : ∀ s ∈ l, SgIn s) : ∀ s ∈ l, SgOk s := fun s hs => by
  unfold mayB segsB at h
  simp only [Bool.and_eq_true, decide_eq_true_eq] at h
  exact SgOk.of (segs_all h.1.2 s hs) (hI s hs)
theorem grownBy_setRow (W : World) (B : Nat) (cs : Array Value) : W.grownBy (W.setRow B cs) (some B) :=
  ⟨rfl, rfl, rfl, by simp [World.setRow], fun k _ hk => by simp [World.setRow, Array.getElem?_modify, show ¬ B = k from fun e => hk (by rw [e])]⟩
theorem loadF_right : ∀ (l : List Sg) (m : List M.Pg), M.Right m → (∀ g ∈ l, SgOk g) → M.Right (loadF m l)
  | [], _, h, _ => h
  | g :: l, m, h, hg => by
    unfold loadF
    split
    · exact loadF_right l _ (layM_right h (hg g (by simp))) (fun x hx => hg x (by simp [hx]))
    · exact rightNil
/-- the two blocks of a call -/
theorem two_new (w : World) (cs : Array Value) (t : TypeId) (k : Mc) (W : World) (hW : W = (w.alloc (.cells cs t)).alloc (.cells (mcells k) 30)) :
    W.heap.size = w.heap.size + 2 ∧ Below w.heap.size w W ∧ W.heap[w.heap.size]? = some (.cells cs t (0, 0)) ∧ Mach W (w.heap.size + 1) k := by
  subst hW
  have e := Mach.new (w.alloc (.cells cs t)) k
  rw [World.size_alloc] at e
  exact ⟨by simp, balloc (balloc (Below.refl _ w) _) _, by rw [Lib.alloc_old _ _ _ (by simp)]; exact heap_alloc_new _ _, e⟩
theorem ownsP_row {W : World} {B : Nat} {v : Value} {m : List M.Pg} {N : Nat} {cs : Array Value} (h : OwnsP W (N + 1) v m) (hB : B = N) : Pages (W.setRow B cs) v m := by
  refine (ownsP_kept h (grownBy_setRow W B cs) ?_).pages
  subst hB
  rcases h.2 with ⟨rfl, _⟩ | ⟨g, cap, cur, rfl, hg, _⟩
  · exact .inl rfl
  · refine .inr (fun e => ?_)
    have : g = B := Option.some.inj e
    omega
set_option maxRecDepth 100000 in
set_option maxHeartbeats 4000000 in
theorem eload_any0 (l : List Sg) (e : Int) (A : Option Addr) (nv cap : Nat) (inp : ByteArray) (w : World) (hS : Segs w (.slice A nv cap) l) (hI : ∀ s ∈ l, SgIn s) (hm : mayB l e = false) :
    Calls Try.prog 21 #[.agg #[.int .u64 e, .slice A nv cap], .string inp] w (LoadPost l e inp w) := by
  have HM := Lib.hid (fun (W : World) (hb : Below w.heap.size w W) => may_any l e A nv cap W (hS.next hb) hI)
  rw [hm] at HM
  have HE := Lib.hid (show ldE l e = 1 by unfold ldE; rw [hm]; rfl)
  clear hS hI hm
  go_enter Try.func21, Try.ntmps21
  go_wp2_with (refine alloc_mach rfl rfl ?_)
  obtain ⟨W, hW⟩ : ∃ W, W = ((w.alloc (.cells #[.int .u64 e, .slice A nv cap] 25)).alloc (.cells (mcells zeroMc) 30)) := ⟨_, rfl⟩
  have H2 := Lib.hid (two_new w _ _ _ W hW)
  rw [← hW]
  clear hW
  refine (HM.out _ H2.out.2.1).mono ?_
  rintro r w1 ⟨rfl, hb⟩
  have HZ := Lib.hid (H2.out.2.2.2.next hb)
  have HB := Lib.hid (bthen H2.out.2.1 hb)
  clear hb
  go_wp2_with (refine store_mach rfl _ _ rfl _ zeroMc rfl rfl _ HZ.out ?_)
  refine bodyPost_ret (results_mach_two Try.results21 _ _ _ zeroMc _ rfl rfl (HZ.out.row zeroMc)) rfl ?_
  exact ⟨zeroMc, by rw [HE.out]; rfl, below_row HB.out _ (by omega), fun _ => rfl, fun h => by rw [HE.out] at h; cases h⟩
set_option maxRecDepth 100000 in
set_option maxHeartbeats 4000000 in
theorem eload_any1 (l : List Sg) (e : Int) (A : Option Addr) (nv cap : Nat) (inp : ByteArray) (w : World) (hS : Segs w (.slice A nv cap) l) (hI : ∀ s ∈ l, SgIn s) (hm : mayB l e = true) :
    Calls Try.prog 21 #[.agg #[.int .u64 e, .slice A nv cap], .string inp] w (LoadPost l e inp w) := by
  have HM := Lib.hid (fun (W : World) (hb : Below w.heap.size w W) => may_any l e A nv cap W (hS.next hb) hI)
  rw [hm] at HM
  have HOK := Lib.hid (may_ok hm hI)
  have HE := Lib.hid (show ldE l e = loadE [] l by unfold ldE; rw [hm]; rfl)
  have hn := hS.len
  have HN := Lib.hid hn
  have HS := Lib.hid hS
  have n4 : (nv : Int) ≤ 4 := by
    unfold mayB segsB at hm
    simp only [Bool.and_eq_true, decide_eq_true_eq] at hm
    omega
  clear hS hI hm hn
  go_enter Try.func21, Try.ntmps21
  go_wp2_with (refine alloc_mach rfl rfl ?_)
  obtain ⟨W, hW⟩ : ∃ W, W = ((w.alloc (.cells #[.int .u64 e, .slice A nv cap] 25)).alloc (.cells (mcells zeroMc) 30)) := ⟨_, rfl⟩
  have H2 := Lib.hid (two_new w _ _ _ W hW)
  rw [← hW]
  clear hW
  refine (HM.out _ H2.out.2.1).mono ?_
  rintro r w1 ⟨rfl, hb⟩
  have HZ := Lib.hid (H2.out.2.2.2.next hb)
  have HB := Lib.hid (bthen H2.out.2.1 hb)
  have HX := Lib.hid ((hb.block w.heap.size (Array.getElem?_eq_some_iff.1 H2.out.2.2.1).1).trans H2.out.2.2.1)
  have HSZ := Lib.hid (show w.heap.size + 2 ≤ w1.heap.size by rw [← H2.out.1]; exact hb.size)
  clear hb
  have k0 : w1.cell? ⟨w.heap.size, 0, none⟩ = some (.int .u64 e) := by rw [Lib.cell_of_heap HX.out]; rfl
  have k1 : w1.cell? ⟨w.heap.size, 1, none⟩ = some (.slice A nv cap) := by rw [Lib.cell_of_heap HX.out]; rfl
  go_wp2_with fail
  clear k0 k1
  have HRF := Lib.hid (Below.refl w1.heap.size w1)
  go_loopw [6, 17] (fun mv iv wr => ∃ (i : Nat) (mA : Option Addr) (mn mc : Nat), i ≤ nv ∧ mv = .slice mA mn mc ∧ iv = .int .i64 i ∧ OwnsP wr (w.heap.size + 2) (.slice mA mn mc) (loadF [] (l.take i)) ∧ loadE [] (l.take i) = 0 ∧ Below w1.heap.size w1 wr) (fun _ iv _ => nv - (intOf iv).toNat)
  case atStart => exact ⟨0, none, 0, 0, Nat.zero_le _, rfl, rfl, ⟨rfl, .inl ⟨rfl, rfl⟩⟩, rfl, HRF.out⟩
  case round =>
    obtain ⟨i, mA, mn, mc, hi, rfl, rfl, ho, ht, hbr⟩ := hrel
    have HBR := Lib.hid hbr
    have HO := Lib.hid ho
    have HT := Lib.hid ht
    clear hbr ho ht
    by_cases hlt : i < nv
    · have hil : i < l.length := by have := HN.out; omega
      have hSr := HS.out.next (bthen HB.out HBR.out)
      obtain ⟨b, off, hA, c0, c1, c2, c3⟩ := hSr.at_ hil
      subst hA
      have hR : M.Right (loadF [] (l.take i)) := loadF_right _ _ rightNil (fun g hg => HOK.out g (List.mem_of_mem_take hg))
      have HL := Lib.hid (fun (u : World) (hb : Below wr.heap.size wr u) => lay1_any (w := u) l[i] (HO.out.pages.next hb) hR HO.out.cap (HOK.out _ (List.getElem_mem hil)))
      have HSN := Lib.hid (loadE_snoc (l.take i) [] l[i] HT.out)
      have HSF := Lib.hid (loadF_snoc (l.take i) [] l[i] HT.out)
      have HSB := Lib.hid (loadE_bad (l.take i) [] l[i] (l.drop (i + 1)) HT.out)
      rw [← List.take_succ_eq_append_getElem hil] at HSN HSF
      rw [show l.take i ++ l[i] :: l.drop (i + 1) = l from by rw [← List.drop_eq_getElem_cons hil, List.take_append_drop]] at HSB
      obtain ⟨LE, hLE⟩ : ∃ x, layE (loadF [] (l.take i)) l[i] = x := ⟨_, rfl⟩
      obtain ⟨LM, hLM⟩ : ∃ x, layM (loadF [] (l.take i)) l[i] = x := ⟨_, rfl⟩
      rw [hLE] at HL HSN HSF HSB
      rw [hLM] at HL HSF
      obtain ⟨⟨ga, gp, gd, gz⟩, hg⟩ : ∃ g, l[i] = g := ⟨_, rfl⟩
      rw [hg] at c0 c1 c2 c3 HL
      simp only [sgV] at c0 c1 c2 c3 HL
      clear hLE hLM hg hSr hil hR HO HT
      have HLT := Lib.hid hlt
      have i0 : (0 : Int) ≤ (i : Int) := by omega
      have i1 : (i : Int) < (nv : Int) := by omega
      clear hlt
      go_wp2_with fail
      refine (HL.out _ (balloc (Below.refl _ wr) _)).mono ?_
      rintro r w2 ⟨v2, rfl, ho2, hb2⟩
      have HB2 := Lib.hid (bthen HBR.out (bthen (balloc (Below.refl _ wr) _) hb2))
      have HO2 := Lib.hid (fun h => ownsP_base (ho2 h) (show w.heap.size + 2 ≤ _ by have := HSZ.out; have := HBR.out.size; simp only [World.size_alloc]; omega))
      clear ho2 hb2 c0 c1 c2 c3 HL
      by_cases h0 : LE = 0
      · subst h0
        have HO3 := Lib.hid (HO2.out rfl)
        rw [← HSF.out rfl] at HO3
        obtain ⟨A3, c3, hv3⟩ := HO3.out.pages.slice
        subst hv3
        clear HO2 HSF HSB
        go_wp2_with fail
        go_roundw
        case rel => exact ⟨i + 1, A3, _, c3, HLT.out, rfl, by go_num, HO3.out, HSN.out, HB2.out⟩
        case measure => have := HLT.out; simp [intOf]; omega
      · have e1 : (LE != 0) = true := by simpa using h0
        have HZ2 := Lib.hid (HZ.out.next HB2.out)
        have HE2 := Lib.hid (show ldE l e = LE by rw [HE.out]; exact HSB.out h0)
        have H0 := Lib.hid h0
        have HB3 := Lib.hid (bthen HB.out HB2.out)
        clear h0 HSB HSF HSN HO2
        go_wp2_with (refine store_mach rfl _ _ rfl _ zeroMc rfl rfl _ HZ2.out ?_)
        refine bodyPost_ret (results_mach_two Try.results21 _ _ _ zeroMc _ rfl rfl (HZ2.out.row zeroMc)) rfl ?_
        exact ⟨zeroMc, by rw [HE2.out]; rfl, below_row HB3.out _ (by omega), fun _ => rfl, fun h => absurd (HE2.out.symm.trans h) H0.out⟩
    · have hT : l.take i = l := List.take_of_length_le (by have := HN.out; omega)
      rw [hT] at HO HT
      have HZ2 := Lib.hid (HZ.out.next HBR.out)
      have HB3 := Lib.hid (bthen HB.out HBR.out)
      have hx := (HBR.out.block w.heap.size (Array.getElem?_eq_some_iff.1 HX.out).1).trans HX.out
      have k0 : wr.cell? ⟨w.heap.size, 0, none⟩ = some (.int .u64 e) := by rw [Lib.cell_of_heap hx]; rfl
      have i1 : ¬ (i : Int) < (nv : Int) := by omega
      clear hT hlt hx
      go_wp2_with (refine store_mach rfl _ _ rfl _ (machOf e inp mA mn mc) rfl rfl _ HZ2.out ?_)
      refine bodyPost_ret (results_mach_two Try.results21 _ _ _ (machOf e inp mA mn mc) _ rfl rfl (HZ2.out.row (machOf e inp mA mn mc))) rfl ?_
      refine ⟨machOf e inp mA mn mc, by rw [HE.out, HT.out]; rfl, below_row HB3.out _ (by omega), fun h => absurd (HE.out.trans HT.out) h, fun _ => ⟨mA, mn, mc, rfl, ownsP_row HO.out rfl, HO.out.cap⟩⟩
/-- elf.Load, of every image -/
theorem eload_any (l : List Sg) (e : Int) (A : Option Addr) (nv cap : Nat) (inp : ByteArray) (w : World) (hS : Segs w (.slice A nv cap) l) (hI : ∀ s ∈ l, SgIn s) :
    Calls Try.prog 21 #[.agg #[.int .u64 e, .slice A nv cap], .string inp] w (LoadPost l e inp w) := by
  cases hm : mayB l e with
  | false => exact eload_any0 l e A nv cap inp w hS hI hm
  | true => exact eload_any1 l e A nv cap inp w hS hI hm
end Go.Proofs.Ytdlbhkdjcegbfaa
