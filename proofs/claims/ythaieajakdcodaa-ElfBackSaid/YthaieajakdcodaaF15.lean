/- Package elf: which images are the same: elf.Same, and the reference's. -/
import Derived.Test.YthaieajakdcodaaF14
import Derived.Laws.StructEq
namespace Go.Proofs.Ythaieajakdcodaa
open Go.RowKit

theorem sba_beq (x y : ByteArray) : (x == y) = true ↔ x = y := by
  rw [beq_toListBytes, beq_iff_eq, ByteArray.toList_eq, ByteArray.toList_eq]
  constructor
  · intro h
    obtain ⟨x⟩ := x
    obtain ⟨y⟩ := y
    congr 1
    exact Array.toList_inj.1 h
  · rintro rfl; rfl
theorem sba_ne {x y : ByteArray} (h : x ≠ y) : (x == y) = false := by
  cases hc : x == y
  · rfl
  · exact absurd ((sba_beq x y).1 hc) h
/-- an answer that is true just if P -/
def IffPost (P : Prop) (w : World) (e : Ending) (w' : World) : Prop := ∃ c : Bool, e = .returned (.bool c) ∧ (c = true ↔ P) ∧ Below w.heap.size w w'
theorem IffPost.no {P : Prop} {w w' : World} (h : ¬ P) (hb : Below w.heap.size w w') : IffPost P w (.returned (.bool false)) w' := ⟨false, rfl, by simp [h], hb⟩
theorem IffPost.yes {P : Prop} {w w' : World} (h : P) (hb : Below w.heap.size w w') : IffPost P w (.returned (.bool true)) w' := ⟨true, rfl, by simp [h], hb⟩
theorem below_quiet {w W : World} (h : Below w.heap.size w W) (n : Nat) : Below w.heap.size w (W.drewN n) := bthen h (drewN_below _ _)
set_option maxRecDepth 100000 in
set_option maxHeartbeats 4000000 in
theorem eqsegs_any (m k : List Sg) (A A' : Option Addr) (n n' cap cap' : Nat) (w : World) (hS : Segs w (.slice A n cap) m) (hS' : Segs w (.slice A' n' cap') k) (hn4 : n ≤ 1000) :
    Calls Try.prog 65 #[.slice A n cap, .slice A' n' cap'] w (IffPost (m = k) w) := by
  have hn := hS.len
  have hn' := hS'.len
  by_cases hne : n = n'
  · subst hne
    have HS := Lib.hid hS
    have HS' := Lib.hid hS'
    have HN := Lib.hid hn
    have HN' := Lib.hid hn'
    have n1 : (n : Int) ≤ 1000 := by omega
    clear hS hS' hn hn' hn4
    go_enter Try.func65, Try.ntmps65
    go_wp2_with fail
    go_loopw [13] (fun iv wr => ∃ i : Nat, i ≤ n ∧ iv = .int .i64 i ∧ m.take i = k.take i ∧ Below w.heap.size w wr) (fun iv _ => n - (intOf iv).toNat)
    case atStart => exact ⟨0, Nat.zero_le _, rfl, by simp, Below.refl _ _⟩
    case round =>
      obtain ⟨i, hi, rfl, hs, hb⟩ := hrel
      have HB := Lib.hid hb
      have HT := Lib.hid hs
      clear hb hs
      by_cases hlt : i < n
      · have hm : i < m.length := by rw [HN.out]; exact hlt
        have hk : i < k.length := by rw [HN'.out]; exact hlt
        obtain ⟨b, off, hA, e0, e1, e2, e3⟩ := (HS.out.next HB.out).at_ hm
        obtain ⟨b', off', hA', g0, g1, g2, g3⟩ := (HS'.out.next HB.out).at_ hk
        subst hA hA'
        have HDIF := Lib.hid (show m = k → ¬ (m[i] ≠ k[i]) from fun e h => by subst e; exact h rfl)
        have HSAME := Lib.hid (show m[i] = k[i] → m.take (i + 1) = k.take (i + 1) from fun e => by
          rw [List.take_succ_eq_append_getElem hm, List.take_succ_eq_append_getElem hk, HT.out, e])
        obtain ⟨⟨xa, xp, xd, xz⟩, hx⟩ : ∃ x, m[i] = x := ⟨_, rfl⟩
        obtain ⟨⟨ya, yp, yd, yz⟩, hy⟩ : ∃ x, k[i] = x := ⟨_, rfl⟩
        rw [hx] at e0 e1 e2 e3 HDIF HSAME
        rw [hy] at g0 g1 g2 g3 HDIF HSAME
        simp only at e0 e1 e2 e3 g0 g1 g2 g3
        have HLT := Lib.hid hlt
        have hk0 : (0 : Int) ≤ (i : Int) := Int.natCast_nonneg _
        have hk1 : (i : Int) < (n : Int) := by omega
        clear hx hy hm hk
        by_cases ha : xa = ya
        · by_cases hp : xp = yp
          · by_cases hd : xd = yd
            · by_cases hz : xz = yz
              · subst ha hp hd hz
                have HSS := Lib.hid (HSAME.out rfl)
                go_wp2_with fail
                go_quiet (fail)
                have HBQ := Lib.hid (below_quiet HB.out nq)
                go_wp2_with fail
                go_roundw
                case rel => exact ⟨i + 1, by have := HLT.out; omega, by go_num, HSS.out, HBQ.out⟩
                case measure => have := HLT.out; simp [intOf]; omega
              · have t1 : (xz == yz) = false := by simpa using hz
                subst ha hp hd
                have HF := Lib.hid (fun e => HDIF.out e (fun h => by rw [Sg.mk.injEq] at h; exact hz h.2.2.2))
                clear hz
                go_wp2_with fail
                go_quiet (fail)
                have HBQ := Lib.hid (below_quiet HB.out nq)
                go_wp2_with fail
                go_ret
                exact IffPost.no HF.out HBQ.out
            · have t1 : (xd == yd) = false := sba_ne hd
              have t2 : (xd.toList == yd.toList) = false := by rw [← beq_toListBytes]; exact t1
              subst ha hp
              have HF := Lib.hid (fun e => HDIF.out e (fun h => by rw [Sg.mk.injEq] at h; exact hd h.2.2.1))
              clear hd
              go_wp2_with fail
              go_quiet (fail)
              have HBQ := Lib.hid (below_quiet HB.out nq)
              go_wp2_with fail
              go_ret
              exact IffPost.no HF.out HBQ.out
          · have t1 : (xp == yp) = false := by simpa using hp
            subst ha
            have HF := Lib.hid (fun e => HDIF.out e (fun h => by rw [Sg.mk.injEq] at h; exact hp h.2.1))
            clear hp
            go_wp2_with fail
            go_quiet (fail)
            have HBQ := Lib.hid (below_quiet HB.out nq)
            go_wp2_with fail
            go_ret
            exact IffPost.no HF.out HBQ.out
        · have t1 : (xa == ya) = false := by simpa using ha
          have HF := Lib.hid (fun e => HDIF.out e (fun h => by rw [Sg.mk.injEq] at h; exact ha h.1))
          clear ha
          go_wp2_with fail
          go_quiet (fail)
          have HBQ := Lib.hid (below_quiet HB.out nq)
          go_wp2_with fail
          go_ret
          exact IffPost.no HF.out HBQ.out
      · have HE := Lib.hid (show m = k by
          have h := HT.out
          rw [List.take_of_length_le (by have := HN.out; omega), List.take_of_length_le (by have := HN'.out; omega)] at h
          exact h)
        have hnlt : decide ((i : Int) < (n : Int)) = false := by simp; omega
        go_wp2_with fail
        go_ret
        exact IffPost.yes HE.out HB.out
  · have HF := Lib.hid (show ¬ m = k from fun e => by subst e; omega)
    have t : ((n : Int) != (n' : Int)) = true := by simp; omega
    clear hS hS' hn hn' hne
    go_enter Try.func65, Try.ntmps65
    go_wp2_with fail
    go_ret
    exact IffPost.no HF.out (Below.refl _ _)
end Go.Proofs.Ythaieajakdcodaa
