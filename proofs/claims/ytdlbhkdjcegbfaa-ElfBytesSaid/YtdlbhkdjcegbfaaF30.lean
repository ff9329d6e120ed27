/- ElfBytes: each byte of a segment stands in memory at its place, and noughts behind, up to its Size. -/
import Derived.Test.YtdlbhkdjcegbfaaF27
import Derived.Test.YtdlbhkdjcegbfaaF11
import Derived.Test.YtdlbhkdjcegbfaaP36
import Derived.Deep.RegionWith
import Derived.Deep.Cut
namespace Go.Proofs.Ytdlbhkdjcegbfaa
open Go.RowKit

/-- the byte of a segment stands in memory -/
theorem load_byte {l : List Sg} {e : Int} (hm : mayB l e = true) (hI : ∀ s ∈ l, SgIn s) (hE : ldE l e = 0) {i : Nat} (hi : i < l.length) {k : Int} (k0 : 0 ≤ k) (k1 : k < l[i].z) :
    M.Right (loadF [] l) ∧ 0 ≤ l[i].a + k ∧ l[i].a + k ≤ 18446744073709551615 ∧ numErr (loadF [] l) (l[i].a + k) 1 0 = 0 ∧ loadV (loadF [] l) (l[i].a + k) 1 0 = if k < l[i].d.size then ((l[i].d.data.toList.getD k.toNat 0).toNat : Int) else 0 := by
  have hok := may_ok hm hI
  have hE' : loadE [] l = 0 := by unfold ldE at hE; rwa [if_pos hm] at hE
  obtain ⟨h1, -, h3, -⟩ := load_all l [] rightNil hok hE'
  have hg := hok _ (List.getElem_mem hi)
  have hp := hg.pages
  have a0 := hg.a0
  have a1 := hg.a1
  have z2 := hg.z2
  obtain ⟨q1, q2⟩ := h3 _ (List.getElem_mem hi) (l[i].a + k) (by omega) (by omega) ⟨by omega, by omega⟩
  refine ⟨h1, by omega, by omega, q1, ?_⟩
  rw [q2]
  unfold sgByte
  rw [show l[i].a + k - l[i].a = k by omega]
  by_cases h : k < l[i].d.size
  · rw [if_pos h, if_pos (by omega)]
  · rw [if_neg h, if_neg (by omega)]
set_option maxRecDepth 100000 in
set_option maxHeartbeats 16000000 in
theorem bytes_all (l : List Sg) (e : Int) (A : Option Addr) (nv cap : Nat) (x y : Int) (w : World) (hS : Segs w (.slice A nv cap) l) (hI : ∀ s ∈ l, SgIn s) (y1 : y ≤ 9223372036854775807) :
    Calls Try.prog 5 #[.agg #[.int .u64 e, .slice A nv cap], .int .i64 x, .int .i64 y] w fun r w' => r = .returned (.bool true) ∧ Below w.heap.size w w' := by
  have HL := Lib.hid (fun (W : World) (hb : Below w.heap.size w W) => eload_any l e A nv cap ⟨#[]⟩ W (hS.next hb) hI)
  have HN := Lib.hid hS.len
  have HS := Lib.hid hS
  have HI := Lib.hid hI
  clear hS hI
  go_enter Try.func5, Try.ntmps5
  go_wp2_with fail
  refine (eshown_any _).mono ?_
  rintro r w1 ⟨rfl, hb⟩
  have HB1 := Lib.hid (bthen (balloc (Below.refl _ w) _) hb)
  have HX := Lib.hid (show w1.heap[w.heap.size]? = some (.cells #[.int .u64 e, .slice A nv cap] 25 (0, 0)) from (hb.block w.heap.size (by simp)).trans (heap_alloc_new w _))
  have k0 : w1.cell? ⟨w.heap.size, 0, none⟩ = some (.int .u64 e) := by rw [Lib.cell_of_heap HX.out]; rfl
  have kA : w1.cell? ⟨w.heap.size, 1, none⟩ = some (.slice A nv cap) := by rw [Lib.cell_of_heap HX.out]; rfl
  clear hb
  go_wp2_with fail
  refine (HL.out _ HB1.out).mono ?_
  rintro r w2 ⟨k, rfl, hb, -, hk⟩
  have HK := Lib.hid hk
  have HZ := Lib.hid (Mach.new w2 zeroMc)
  obtain ⟨W, hW⟩ : ∃ W, W = (w2.alloc (.cells (mcells zeroMc) 30)).setRow w2.heap.size (mcells k) := ⟨_, rfl⟩
  have HZ2 := Lib.hid (show Mach W w2.heap.size k by rw [hW]; exact HZ.out.row _)
  have HW2 := Lib.hid (show Below w2.heap.size w2 W by rw [hW]; exact below_row (balloc (Below.refl _ w2) _) _ (Nat.le_refl _))
  have HB2 := Lib.hid (bthen (bthen HB1.out hb) HW2.out)
  have HX2 := Lib.hid (show W.heap[w.heap.size]? = some (.cells #[.int .u64 e, .slice A nv cap] 25 (0, 0)) from ((bthen hb HW2.out).block _ (Array.getElem?_eq_some_iff.1 HX.out).1).trans HX.out)
  have k1 : W.cell? ⟨w.heap.size, 1, none⟩ = some (.slice A nv cap) := by rw [Lib.cell_of_heap HX2.out]; rfl
  obtain ⟨E, hE⟩ : ∃ E, ldE l e = E := ⟨_, rfl⟩
  rw [hE] at HK ⊢
  have HE := Lib.hid hE
  clear hb hk k0 kA hE
  go_upto_region 3 with (first | (refine alloc_mach rfl rfl ?_) | (refine store_mach rfl _ _ rfl _ k rfl rfl _ HZ.out ?_))
  rw [← hW]
  clear hW HZ HB1 HL HX
  by_cases hE0 : E = 0
  case neg =>
    have q0 : (E != 0) = true := by simpa using hE0
    clear hE0
    go_wp2_with fail
    go_ret
    exact ⟨rfl, HB2.out⟩
  have q0 : (E != 0) = false := by simpa using hE0
  obtain ⟨mA, mn, mc, rfl, hP, -⟩ := HK.out hE0
  have hm : mayB l e = true := by
    cases hm : mayB l e
    · have h := HE.out; unfold ldE at h; rw [hm, hE0] at h; cases h
    · rfl
  have HM := Lib.hid hm
  have HE0 := Lib.hid (HE.out.trans hE0)
  have HP := Lib.hid (hP.next HW2.out)
  clear HK hE0 hm hP HE
  by_cases hx0 : x < 0
  · have t0 : decide (x < 0) = true := decide_eq_true hx0
    clear hx0
    go_wp2_with fail
    go_ret
    exact ⟨rfl, HB2.out⟩
  have t0 : decide (x < 0) = false := decide_eq_false hx0
  obtain ⟨i, rfl⟩ : ∃ i : Nat, x = i := Int.eq_ofNat_of_zero_le (by omega)
  by_cases hx1 : i < nv
  case neg =>
    have t1 : nv ≤ i := by omega
    have t2 : decide (nv ≤ i) = true := decide_eq_true t1
    clear hx0 hx1
    go_wp2_with fail
    go_ret
    exact ⟨rfl, HB2.out⟩
  have t1 : ¬ nv ≤ i := by omega
  have t2 : decide (nv ≤ i) = false := decide_eq_false t1
  by_cases hy0 : y < 0
  · have t3 : decide (y < 0) = true := decide_eq_true hy0
    clear hx0 hx1 hy0
    go_wp2_with fail
    go_ret
    exact ⟨rfl, HB2.out⟩
  have t3 : decide (y < 0) = false := decide_eq_false hy0
  have wy : IntKind.u64.wrap y = y := by rw [IntKind.wrap_u64]; omega
  have hil : i < l.length := by have := HN.out; omega
  obtain ⟨b, off, hA, c0, c1, c2, c3⟩ := (HS.out.next HB2.out).at_ hil
  subst hA
  have HY := Lib.hid (fun (h : y < l[i].z) => load_byte HM.out HI.out HE0.out hil (k := y) (by omega) h)
  have hsi := HI.out l[i] (List.getElem_mem hil)
  obtain ⟨⟨ga, gp, gd, gz⟩, hg⟩ : ∃ g, l[i] = g := ⟨_, rfl⟩
  rw [hg] at c0 c1 c2 c3 HY hsi
  obtain ⟨⟨a0, a1⟩, -, -, gd1⟩ := hsi
  simp only at c0 c1 c2 c3 HY a0 a1 gd1
  have i0 : (0 : Int) ≤ (i : Int) := by omega
  have i1 : (i : Int) < (nv : Int) := by omega
  have y0 : 0 ≤ y := by omega
  clear hx0 hx1 hy0 hil hg
  by_cases hy1 : y < gz
  case neg =>
    have t4 : decide (gz ≤ y) = true := decide_eq_true (by omega)
    clear hy1
    go_wp2_with fail
    go_ret
    exact ⟨rfl, HB2.out⟩
  have t4 : decide (gz ≤ y) = false := decide_eq_false (by omega)
  obtain ⟨hR, b0, b1, hn, hv⟩ := HY.out hy1
  have HF := Lib.hid (fun (U : World) (hb : Below W.heap.size W U) => refLoad_one (ga + y) (HP.out.next hb) hR b0 b1)
  rw [hn, hv] at HF
  have ws : IntKind.u64.wrap (ga + y) = ga + y := by rw [IntKind.wrap_u64]; omega
  obtain ⟨V, hV⟩ : ∃ V : Int, (if y < (gd.size : Int) then ((gd.data.toList.getD y.toNat 0).toNat : Int) else 0) = V := ⟨_, rfl⟩
  rw [hV] at HF
  obtain ⟨-, -, cm, -⟩ := HZ2.out.cells
  simp only [machOf] at cm
  clear hy1 HY hR b0 b1 hn hv
  have HV := Lib.hid hV
  clear hV
  go_upto_region 5 with fail
  go_cut [10, 11] from 47 to 61 (fun v10 v11 wx => v10 = .int .u64 V ∧ v11 = .int .i64 0 ∧ Below W.heap.size W wx)
  case first =>
    go_region_with (first | (go_at_call 24; refine (HF.out _ (Below.refl _ _).drew).mono ?_; rintro r w3 ⟨rfl, hb⟩; have HR := Lib.hid (bthen ((Below.refl _ W).drew) hb); clear hb))
    all_goals
      go_wp2_with fail
      go_meet
      case rel => exact ⟨rfl, rfl, HR.out⟩
  case rest =>
    obtain ⟨rfl, rfl, hb⟩ := hcut
    have HB3 := Lib.hid (bthen HB2.out hb)
    have k1' : wc.cell? ⟨w.heap.size, 1, none⟩ = some (.slice (some ⟨b, off, none⟩) nv cap) := by rw [(bcell hb).1 _ _ (Array.getElem?_eq_some_iff.1 HX2.out).1]; exact k1
    have c2' : wc.cell? ⟨b, off + i * 4 + 2, none⟩ = some (.string gd) := by rw [(bcell hb).1 _ _ (World.block_lt_of_cell? W _ c2)]; exact c2
    clear hb k1 c0 c1 c2 c3 cm HF HX2 HZ2 t4 ws
    obtain ⟨j, rfl⟩ : ∃ j : Nat, y = j := Int.eq_ofNat_of_zero_le y0
    by_cases hj : j < gd.size
    · have g1 : (j : Int) < (gd.size : Int) := by omega
      have HQ := Lib.hid (show (V == IntKind.u64.wrap (gd[j].toNat : Int)) = true by
        have h1 : V = ((gd.data.toList.getD j 0).toNat : Int) := by rw [← HV.out, if_pos g1]; rfl
        have h2 : gd.data.toList.getD j 0 = gd[j] := by
          rw [List.getD_eq_getElem?_getD, List.getElem?_eq_getElem (by simpa using hj)]
          rfl
        have h3 := gd[j].toNat_lt
        rw [h1, h2, IntKind.wrap_u64]
        simp
        omega)
      go_wp2_with fail
      go_ret
      exact ⟨by show Ending.returned (.bool (V == IntKind.u64.wrap (gd[j].toNat : Int))) = _; rw [HQ.out], HB3.out⟩
    · have g1 : ¬ (j : Int) < (gd.size : Int) := by omega
      have HV2 := Lib.hid (show V = 0 by rw [← HV.out, if_neg g1])
      obtain rfl := HV2.out
      go_wp2_with fail
      go_ret
      exact ⟨rfl, HB3.out⟩
end Go.Proofs.Ytdlbhkdjcegbfaa
