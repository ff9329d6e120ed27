/- The document's example, at the head of every law of package rv. The document's example: the machine step by step, and the law's own function. -/
import Derived.Test.YtclbkdnihhmglaaDoorZNF
import Derived.Test.YtclbkdnihhmglaaDoorZP45
import Derived.Test.YtclbkdnihhmglaaDoorZEI
namespace Go.Proofs.YtclbkdnihhmglaaDoor
open Go.RowKit

def exF (i j : Nat) : Int := (([[12, 17, 0, 0, 93], [12, 10, 0, 0, 7], [31, 0, 0, 0, 0]] : List (List Int)).getD i []).getD j 0
theorem ex_ok : ∀ j, j < 3 → E.okO exF j = true := by decide +kernel
def exS : ByteArray := ⟨#[147, 8, 208, 5, 19, 5, 112, 0, 115, 0, 0, 0]⟩
theorem ex_str : strOfNums (E.numsTo exF 3) = exS := by decide +kernel
def ex0 : M.Pg := ⟨0, 1, noughts⟩
def exM : List M.Pg := laid [ex0] 0 exS.data.toList
theorem right_ex0 : rightB [ex0] = true := by
  unfold rightB
  rw [decide_eq_true_eq]
  refine ⟨by simp, fun i h => ?_⟩
  obtain rfl : i = 0 := by simpa using h
  simp [okAt, M.okPg, ex0, M.okPerm, noughts_size]
theorem wf_ex0 : Wf [ex0] := ⟨by simp, fun x h => by simp at h; subst h; simp [ex0], fun x h => by simp at h; subst h; simp [ex0]⟩
theorem wf_nil0 : Wf [] := ⟨by simp, fun x h => by simp at h, fun x h => by simp at h⟩
theorem strs_ex0 : M.strs 0 256 = [⟨0, 0, 256⟩] := by
  rw [M.strs_cons (by omega), M.strs_nil (by omega)]; rfl
theorem strs_ex12 : M.strs 0 12 = [⟨0, 0, 12⟩] := by
  rw [M.strs_cons (by omega), M.strs_nil (by omega)]; rfl
theorem mapErr_ex0 : mapErr [] 0 1 1 = 0 := by
  have h1 : mapArg [] 0 1 1 = true := by simp [mapArg, right_nil, M.okPerm, beyondB]
  have h2 : anyB [] 0 1 = false := by simp [anyB, M.there]
  simp [mapErr, h1, h2]
theorem mapM_ex0 : mapM [] 0 1 1 = [ex0] := by
  unfold mapM
  rw [if_pos mapErr_ex0, show (1 : Int) * 256 = 256 from rfl, strs_ex0]
  simp [mkPg, ex0]
theorem grant_ex0 (p : Int) (hp : okBits 1 p = true) : grantB [ex0] 0 p = true := by
  have h1 : M.there [ex0] 0 = true := by simp [M.there, ex0]
  have h2 : M.low [ex0] 0 = 0 := by simp [M.low, ex0]
  unfold grantB
  rw [h1, h2]
  exact hp
theorem fillErr_ex0 : fillErr [ex0] 0 12 = 0 := by
  have h : allGrantB [ex0] 0 12 0 = true := by simp [allGrantB, strs_ex12, grant_ex0 0 (okBits_zero 1), beyondB]
  simp [fillErr, right_ex0, h]
theorem exS_size : exS.size = 12 := rfl
theorem fillM_ex0 : fillM [ex0] 0 exS = exM := by
  unfold fillM
  rw [exS_size]
  exact if_pos fillErr_ex0
theorem right_m0 : M.Right [ex0] := Right.of right_ex0 wf_ex0.a0 wf_ex0.a1
theorem wf_exM : Wf exM := laid_wf right_m0 _ _
theorem num_exM (p : Int) (h : p = 0 ∨ p = 4 ∨ p = 8) : numErr exM p 4 1 = 0 := by
  unfold exM
  rw [laid_num right_m0]
  have hb : okBits 1 1 = true := by decide +kernel
  have hs : M.strs p 4 = [⟨0, p, 4⟩] := by
    rcases h with rfl | rfl | rfl <;> (rw [M.strs_cons (by omega), M.strs_nil (by omega)]; rfl)
  have hg : allGrantB [ex0] p 4 1 = true := by
    rcases h with rfl | rfl | rfl <;> simp [allGrantB, hs, grant_ex0 1 hb, beyondB]
  simp [numErr, right_ex0, hg]
theorem bytes_exM0 : M.bytesOf exM 0 4 = [147, 8, 208, 5] := by decide +kernel
theorem bytes_exM4 : M.bytesOf exM 4 4 = [19, 5, 112, 0] := by decide +kernel
theorem bytes_exM8 : M.bytesOf exM 8 4 = [115, 0, 0, 0] := by decide +kernel
theorem load_exM0 : loadV exM 0 4 1 = E.wordI 12 17 0 0 93 := by
  unfold loadV
  rw [if_pos (num_exM 0 (by omega)), show (4 : Int).toNat = 4 from rfl, bytes_exM0]
  decide +kernel
theorem load_exM4 : loadV exM 4 4 1 = E.wordI 12 10 0 0 7 := by
  unfold loadV
  rw [if_pos (num_exM 4 (by omega)), show (4 : Int).toNat = 4 from rfl, bytes_exM4]
  decide +kernel
theorem load_exM8 : loadV exM 8 4 1 = E.wordI 31 0 0 0 0 := by
  unfold loadV
  rw [if_pos (num_exM 8 (by omega)), show (4 : Int).toNat = 4 from rfl, bytes_exM8]
  decide +kernel
end Go.Proofs.YtclbkdnihhmglaaDoor

namespace Go.Proofs.YtclbkdnihhmglaaDoor
open Go.RowKit

def exK (A : Option Addr) (l c : Nat) : Nat → Mc
  | 0 => { zeroMc with ma := A, ml := l, mc := c }
  | 1 => aluM (tickM { zeroMc with ma := A, ml := l, mc := c }) 12 17 93 0 0
  | 2 => aluM (tickM (aluM (tickM { zeroMc with ma := A, ml := l, mc := c }) 12 17 93 0 0)) 12 10 7 0 0
  | _ => endM (tickM (aluM (tickM (aluM (tickM { zeroMc with ma := A, ml := l, mc := c }) 12 17 93 0 0)) 12 10 7 0 0))
def exX1 : Nat → Int := (aluM (tickM zeroMc) 12 17 93 0 0).x
def exX2 : Nat → Int := (aluM (tickM (aluM (tickM zeroMc) 12 17 93 0 0)) 12 10 7 0 0).x
theorem exK1_x (A : Option Addr) (l c : Nat) : (exK A l c 1).x = exX1 := rfl
theorem exK2_x (A : Option Addr) (l c : Nat) : (exK A l c 2).x = exX2 := rfl
theorem exX1_in : ∀ j, j < 32 → 0 ≤ exX1 j ∧ exX1 j ≤ 18446744073709551615 := by decide +kernel
theorem exX2_17 : exX2 17 = 93 := by decide +kernel
theorem exX2_10 : exX2 10 = 7 := by decide +kernel
theorem exK1_pc (A : Option Addr) (l c : Nat) : (exK A l c 1).pc = 4 := (show (aluM (tickM zeroMc) 12 17 93 0 0).pc = 4 by decide +kernel)
theorem exK2_pc (A : Option Addr) (l c : Nat) : (exK A l c 2).pc = 8 := (show (aluM (tickM (aluM (tickM zeroMc) 12 17 93 0 0)) 12 10 7 0 0).pc = 8 by decide +kernel)
theorem exK3_n (A : Option Addr) (l c : Nat) : (exK A l c 3).n = 3 := (show (endM (tickM (aluM (tickM (aluM (tickM zeroMc) 12 17 93 0 0)) 12 10 7 0 0))).n = 3 by decide +kernel)
theorem exK3_st (A : Option Addr) (l c : Nat) : (exK A l c 3).st = 1 := rfl
theorem exK3_cd (A : Option Addr) (l c : Nat) : (exK A l c 3).cd = 7 := (show (endM (tickM (aluM (tickM (aluM (tickM zeroMc) 12 17 93 0 0)) 12 10 7 0 0))).cd = 7 by decide +kernel)

theorem ex_steps {w : World} (T : E.Tabs w) (A : Option Addr) (l c j : Nat) (W : World) (hj : j < 3) (hP : Pages W (.slice A l c) exM) (hb : Below w.heap.size w W) :
    Calls Tryd.prog 15 #[.agg (mcells (exK A l c j))] W (RetIs (.agg (mcells (exK A l c (j + 1)))) W) := by
  have TW : E.Tabs W := T.next hb
  rcases (by omega : j = 0 ∨ j = 1 ∨ j = 2) with rfl | rfl | rfl
  · have hp : (tickM (exK A l c 0)).pc = 0 := rfl
    exact step_done (exK A l c 0) (exK A l c 1) 12 17 (0 : Nat) (0 : Nat) 93 W rfl
      (fun W' hb' => fetch_yes (tickM (exK A l c 0)) exM (hP.next hb') wf_exM (TW.next hb') (by rw [hp]; omega) (by rw [hp]; omega) 12 17 0 0 93 (by rw [hp]; rfl) (by rw [hp]; exact num_exM 0 (by omega)) (by rw [hp]; exact load_exM0) (by decide +kernel))
      (fun W' => do_alu (tickM (exK A l c 0)) 12 17 93 0 0 W' (fun j _ => ⟨by show (0:Int) ≤ 0; omega, by show (0:Int) ≤ _; omega⟩) rfl (by omega) (by omega) (by omega) (by omega) (by omega) (by omega))
  · have hx : ∀ j, j < 32 → 0 ≤ (tickM (exK A l c 1)).x j ∧ (tickM (exK A l c 1)).x j ≤ 18446744073709551615 := exX1_in
    have hp : (tickM (exK A l c 1)).pc = 4 := exK1_pc A l c
    exact step_done (exK A l c 1) (exK A l c 2) 12 10 (0 : Nat) (0 : Nat) 7 W rfl
      (fun W' hb' => fetch_yes (tickM (exK A l c 1)) exM (hP.next hb') wf_exM (TW.next hb') (by rw [hp]; omega) (by rw [hp]; omega) 12 10 0 0 7 (by rw [hp]; rfl) (by rw [hp]; exact num_exM 4 (by omega)) (by rw [hp]; exact load_exM4) (by decide +kernel))
      (fun W' => do_alu (tickM (exK A l c 1)) 12 10 7 0 0 W' hx rfl (by omega) (by omega) (by omega) (by omega) (by omega) (by omega))
  · have hp : (tickM (exK A l c 2)).pc = 8 := exK2_pc A l c
    exact step_done (exK A l c 2) (exK A l c 3) 31 0 (0 : Nat) (0 : Nat) 0 W rfl
      (fun W' hb' => fetch_yes (tickM (exK A l c 2)) exM (hP.next hb') wf_exM (TW.next hb') (by rw [hp]; omega) (by rw [hp]; omega) 31 0 0 0 0 (by rw [hp]; rfl) (by rw [hp]; exact num_exM 8 (by omega)) (by rw [hp]; exact load_exM8) (by decide +kernel))
      (fun W' => do_exit (tickM (exK A l c 2)) 0 0 0 0 W' exX2_17 (by omega) (by omega))

theorem lit_mach (A : Option Addr) (n c : Nat) : mcells { zeroMc with ma := A, ml := n, mc := c } = #[.int .u64 0, .int .u64 0, .int .u64 0, .int .u64 0, .int .u64 0, .int .u64 0, .int .u64 0, .int .u64 0, .int .u64 0, .int .u64 0, .int .u64 0, .int .u64 0, .int .u64 0, .int .u64 0, .int .u64 0, .int .u64 0, .int .u64 0, .int .u64 0, .int .u64 0, .int .u64 0, .int .u64 0, .int .u64 0, .int .u64 0, .int .u64 0, .int .u64 0, .int .u64 0, .int .u64 0, .int .u64 0, .int .u64 0, .int .u64 0, .int .u64 0, .int .u64 0, .int .u64 0, .slice A n c, .string ⟨#[]⟩, .string ⟨#[]⟩, .int .i64 0, .int .u64 0, .int .u64 0] := rfl
theorem exM_length : exM.length = 1 := rfl

theorem ex_ops (w : World) : E.Ops (w.alloc (.cells #[.int .i64 12, .int .i64 17, .int .i64 0, .int .i64 0, .int .i64 93, .int .i64 12, .int .i64 10, .int .i64 0, .int .i64 0, .int .i64 7, .int .i64 31, .int .i64 0, .int .i64 0, .int .i64 0, .int .i64 0] 35)) (.slice (some ⟨w.heap.size, 0, none⟩) 3 3) 3 exF := by
  refine .inr ⟨by omega, w.heap.size, 0, 3, rfl, by simp, fun i hi j hj => ?_⟩
  rw [cell_of_row _ _ _ _ _ _ (heap_alloc_new w _)]
  rcases (by omega : i = 0 ∨ i = 1 ∨ i = 2) with rfl | rfl | rfl <;> rcases (by omega : j = 0 ∨ j = 1 ∨ j = 2 ∨ j = 3 ∨ j = 4) with rfl | rfl | rfl | rfl | rfl <;> rfl

set_option maxRecDepth 100000 in
set_option maxHeartbeats 4000000 in
theorem shown_any (w : World) (T : E.Tabs w) : Calls Tryd.prog 4 #[] w fun e w' => e = .returned (.bool true) ∧ Below w.heap.size w w' := by
  have HM := Lib.hid (fun (W : World) => refMap_any (m := []) (v := .slice none 0 0) (w := W) 0 1 1 (.inl ⟨rfl, .inl rfl⟩) wf_nil0 (by omega) (by omega))
  rw [mapErr_ex0, mapM_ex0] at HM
  have HF := Lib.hid (fun (v : Value) (W : World) (hP : Pages W v [ex0]) => refFill_any (m := [ex0]) 0 exS hP wf_ex0 (by omega) (by omega) (by rw [exS_size]; omega))
  rw [fillM_ex0] at HF
  obtain ⟨fe, hfe⟩ : ∃ fe, fillErr [ex0] 0 exS.size = fe := ⟨_, rfl⟩
  rw [hfe] at HF
  have HR := Lib.hid (fun (A : Option Addr) (n c : Nat) (W : World) (hP : Pages W (.slice A n c) exM) (hb : Below w.heap.size w W) =>
    run_seq { zeroMc with ma := A, ml := n, mc := c } exM 3 exK W hP (by rw [exM_length]; omega) (by omega) rfl (fun _ _ _ => rfl)
      (fun A l c j hj => by rcases (by omega : j = 0 ∨ j = 1 ∨ j = 2) with rfl | rfl | rfl <;> rfl)
      (fun A l c j hj => by rcases (by omega : j = 0 ∨ j = 1 ∨ j = 2 ∨ j = 3) with rfl | rfl | rfl | rfl <;> rfl)
      (fun A l c j W' hj hP' hb' => ex_steps T A l c j W' hj hP' (bthen hb hb')))
  have HOP := Lib.hid (fun (v : Value) (W : World) (hO : E.Ops W v 3 exF) => E.rbytes_any hO (by omega))
  have HT := Lib.hid T
  clear T hfe
  go_enter Tryd.func4, Tryd.ntmps4
  go_wp2_with fail
  refine (HOP.out _ _ (ex_ops w)).mono ?_
  rintro e w1 ⟨⟨-, rfl⟩ | ⟨⟨j, hj, hf⟩, -⟩, hb1⟩
  rotate_left
  · rw [ex_ok j hj] at hf; cases hf
  rw [ex_str]
  have HB1 := Lib.hid (bthen (balloc (Below.refl _ w) _) hb1)
  clear hb1
  go_wp2_with fail
  refine (HM.out _).mono ?_
  rintro e w2 ⟨v2, rfl, hp2, hb2⟩
  have HB2 := Lib.hid (bthen HB1.out hb2)
  have HP2 := Lib.hid hp2
  obtain ⟨A2, c2, hv2⟩ := hp2.slice
  rw [List.length_singleton] at hv2
  subst hv2
  clear hb2 hp2
  go_wp2_with fail
  refine (HF.out _ _ HP2.out).mono ?_
  rintro e w3 ⟨v3, rfl, hp3, hb3⟩
  have HB3 := Lib.hid (bthen HB2.out hb3)
  have HP3 := Lib.hid hp3
  obtain ⟨A3, c3, hv3⟩ := hp3.slice
  rw [exM_length] at hv3
  subst hv3
  clear hb3 hp3
  go_wp2_with fail
  have hr := HR.out A3 1 c3 _ HP3.out HB3.out
  rw [lit_mach] at hr
  refine hr.mono ?_
  rintro e w4 ⟨A4, l4, c4, rfl, hb4⟩
  have HB4 := Lib.hid (bthen HB3.out hb4)
  clear hb4 hr
  obtain ⟨kf, hkf, h1, h2, h3⟩ : ∃ kf : Mc, { exK A4 l4 c4 3 with out := ⟨#[]⟩ } = kf ∧ kf.st = 1 ∧ kf.cd = 7 ∧ kf.n = 3 := ⟨_, rfl, exK3_st A4 l4 c4, exK3_cd A4 l4 c4, exK3_n A4 l4 c4⟩
  rw [hkf]
  clear hkf
  have HU := Lib.hid (Mach.new w4 zeroMc)
  have HU2 := Lib.hid (HU.out.row kf)
  obtain ⟨-, -, -, -, -, m36, m37, m38, -⟩ := HU2.out.cells
  have HB5 := Lib.hid (below_row (balloc HB4.out (.cells (mcells zeroMc) 26)) (B := w4.heap.size) (mcells kf) (by have := HB4.out.size; omega))
  rw [h1] at m36
  rw [h2] at m37
  rw [h3] at m38
  clear h1 h2 h3
  go_wp2_with (first | (refine alloc_mach rfl rfl ?_) | (refine store_mach rfl _ _ rfl _ _ rfl rfl _ HU.out ?_))
  go_ret
  exact ⟨rfl, HB5.out⟩
end Go.Proofs.YtclbkdnihhmglaaDoor
