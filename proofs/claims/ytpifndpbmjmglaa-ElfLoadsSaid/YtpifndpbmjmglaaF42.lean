/- ElfLoads: the walk. -/
import Derived.Test.YtpifndpbmjmglaaF41
namespace Go.Proofs.Ytpifndpbmjmglaa
open Go.RowKit

/-- the pages of what an image loads -/
def ldM (l : List Sg) (e : Int) : List M.Pg := if ldE l e = 0 then loadF [] l else []
theorem lp_parts {l : List Sg} {e : Int} {inp : ByteArray} {W : World} {k : Mc} (hz : ldE l e ≠ 0 → k = zeroMc) (hk : ldE l e = 0 → ∃ A n c, k = machOf e inp A n c ∧ Pages W (.slice A n c) (loadF [] l)) :
    Pages W (.slice k.ma k.ml k.mc) (ldM l e) ∧ (k.x = zeroMc.x ∧ k.pc = (if ldE l e = 0 then e else 0) ∧ k.inp = (if ldE l e = 0 then inp else .empty) ∧ k.out = zeroMc.out ∧ k.st = zeroMc.st ∧ k.cd = zeroMc.cd ∧ k.n = zeroMc.n) := by
  unfold ldM
  by_cases h : ldE l e = 0
  · obtain ⟨A, n, c, rfl, hP⟩ := hk h
    rw [if_pos h, if_pos h, if_pos h]
    exact ⟨hP, rfl, rfl, rfl, rfl, rfl, rfl, rfl⟩
  · have e0 := hz h
    subst e0
    rw [if_neg h, if_neg h, if_neg h]
    exact ⟨.inl ⟨rfl, .inl rfl⟩, rfl, rfl, rfl, rfl, rfl, rfl, rfl⟩
theorem lp_same {m : List M.Pg} {a b : Mc} {p : Int} {i : ByteArray} (ha : a.x = zeroMc.x ∧ a.pc = p ∧ a.inp = i ∧ a.out = zeroMc.out ∧ a.st = zeroMc.st ∧ a.cd = zeroMc.cd ∧ a.n = zeroMc.n) (hb : b.x = zeroMc.x ∧ b.pc = p ∧ b.inp = i ∧ b.out = zeroMc.out ∧ b.st = zeroMc.st ∧ b.cd = zeroMc.cd ∧ b.n = zeroMc.n) : sameMc a b m m = true := by
  obtain ⟨a1, a2, a3, a4, a5, a6, a7⟩ := ha
  obtain ⟨b1, b2, b3, b4, b5, b6, b7⟩ := hb
  have ba : ∀ s : ByteArray, (s == s) = true := fun s => by rw [beq_toListBytes]; simp
  unfold sameMc eqX
  rw [(sameB_iff m m).2 rfl, a1, a2, a3, a4, a5, a6, a7, b1, b2, b3, b4, b5, b6, b7, ba, ba]
  simp
theorem ldM_len {l : List Sg} {e : Int} (hI : ∀ s ∈ l, SgIn s) : (ldM l e).length ≤ 64 := by
  unfold ldM
  by_cases h0 : ldE l e = 0
  · rw [if_pos h0]
    have hm : mayB l e = true := by
      cases hm : mayB l e
      · unfold ldE at h0; rw [hm] at h0; cases h0
      · rfl
    exact (loadF_right l [] rightNil (may_ok hm hI)).len
  · rw [if_neg h0]
    simp
set_option maxRecDepth 100000 in
set_option maxHeartbeats 16000000 in
theorem loads_all (l : List Sg) (e : Int) (A : Option Addr) (nv cap : Nat) (inp : ByteArray) (w : World) (hS : Segs w (.slice A nv cap) l) (hI : ∀ s ∈ l, SgIn s) (_e1 : e ≤ 18446744073709551615) :
    Calls Try.prog 3 #[.agg #[.int .u64 e, .slice A nv cap], .string inp] w fun r w' => r = .returned (.bool true) ∧ Below w.heap.size w w' := by
  have HL := Lib.hid (fun (W : World) (hb : Below w.heap.size w W) => eload_any l e A nv cap inp W (hS.next hb) hI)
  have HR := Lib.hid (fun (W : World) (hb : Below w.heap.size w W) => rload_any l e A nv cap inp W (hS.next hb) hI)
  have HLN := Lib.hid (show (ldM l e).length ≤ 1000000 by have := ldM_len (e := e) hI; omega)
  clear hS hI
  go_enter Try.func3, Try.ntmps3
  go_wp2_with fail
  refine (eshown_any _).mono ?_
  rintro r w1 ⟨rfl, hb⟩
  have HB1 := Lib.hid (bthen (balloc (Below.refl _ w) _) hb)
  have HX := Lib.hid (fun (U : World) (hU : Below w1.heap.size w1 U) => (show U.cell? ⟨w.heap.size, 0, none⟩ = some (.int .u64 e) ∧ U.cell? ⟨w.heap.size, 1, none⟩ = some (.slice A nv cap) from by
    have h := ((bthen hb hU).block w.heap.size (by simp)).trans (heap_alloc_new w (.cells #[.int .u64 e, .slice A nv cap] 25))
    exact ⟨Lib.cell_of_heap h 0, Lib.cell_of_heap h 1⟩))
  clear hb
  obtain ⟨k0, k1⟩ := HX.out _ (Below.refl _ _)
  go_wp2_with fail
  refine (HL.out _ HB1.out).mono ?_
  rintro r w2 ⟨a, rfl, hb, hz, hk⟩
  obtain ⟨hP, ha⟩ := lp_parts hz (fun h => by obtain ⟨A', n', c', e', p', -⟩ := hk h; exact ⟨A', n', c', e', p'⟩)
  have HPA := Lib.hid hP
  have HA := Lib.hid ha
  have HN2 := Lib.hid (Mach.new w2 zeroMc)
  obtain ⟨W2, hW2⟩ : ∃ U, U = (w2.alloc (.cells (mcells zeroMc) 30)).setRow w2.heap.size (mcells a) := ⟨_, rfl⟩
  have HMA := Lib.hid (show Mach W2 w2.heap.size a by rw [hW2]; exact HN2.out.row _)
  have HB2 := Lib.hid (show Below w2.heap.size w2 W2 by rw [hW2]; exact below_row (balloc (Below.refl _ w2) _) _ (Nat.le_refl _))
  have HB3 := Lib.hid (bthen hb HB2.out)
  clear hb hz hk hP ha k0 k1
  go_upto_region 3 with (first | (refine alloc_mach rfl rfl ?_) | (refine store_mach rfl _ _ rfl _ a rfl rfl _ HN2.out ?_))
  rw [← hW2]
  clear hW2 HN2
  obtain ⟨k0, k1⟩ := HX.out _ HB3.out
  go_wp2_with fail
  refine (HR.out _ (bthen HB1.out HB3.out)).mono ?_
  rintro r w3 ⟨b, rfl, hb, hz, hk⟩
  obtain ⟨hP, ha⟩ := lp_parts hz hk
  have HN3 := Lib.hid (Mach.new w3 zeroMc)
  obtain ⟨W3, hW3⟩ : ∃ U, U = (w3.alloc (.cells (mcells zeroMc) 30)).setRow w3.heap.size (mcells b) := ⟨_, rfl⟩
  have HMB := Lib.hid (show Mach W3 w3.heap.size b by rw [hW3]; exact HN3.out.row _)
  have HB4 := Lib.hid (show Below w3.heap.size w3 W3 by rw [hW3]; exact below_row (balloc (Below.refl _ w3) _) _ (Nat.le_refl _))
  have HB5 := Lib.hid (bthen hb HB4.out)
  have HMA3 := Lib.hid (HMA.out.next HB5.out)
  have HSM := Lib.hid (rsameM_any a b (ldM l e) (ldM l e) W3 (HPA.out.next (bthen HB2.out HB5.out)) (hP.next HB4.out) HLN.out)
  have HB6 := Lib.hid (bthen HB1.out (bthen HB3.out HB5.out))
  rw [lp_same HA.out ha] at HSM
  clear hb hz hk hP ha k0 k1
  obtain ⟨E, hE⟩ : ∃ E, ldE l e = E := ⟨_, rfl⟩
  rw [hE]
  go_upto_region 4 with (first | (refine alloc_mach rfl rfl ?_) | (refine store_mach rfl _ _ rfl _ b rfl rfl _ HN3.out ?_))
  rw [← hW3]
  clear hW3 HN3
  go_wp2_with (first | (refine load_mach rfl _ rfl _ rfl _ HMA3.out ?_) | (refine load_mach rfl _ rfl _ rfl _ HMB.out ?_))
  refine HSM.out.mono ?_
  rintro r w5 ⟨rfl, hb5⟩
  have HB7 := Lib.hid (bthen HB6.out hb5)
  clear hb5
  go_wp2_with fail
  go_ret
  exact ⟨by simp, HB7.out⟩
end Go.Proofs.Ytpifndpbmjmglaa
