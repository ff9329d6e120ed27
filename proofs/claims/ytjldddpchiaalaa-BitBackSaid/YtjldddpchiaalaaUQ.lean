/- Package bit: the law BitBack. -/
import Derived.Test.YtjldddpchiaalaaUN
namespace Go.Proofs.Ytjldddpchiaalaa
open Go.RowKit
namespace Q

theorem list_refl {α : Type} {p : α → α → Bool} (h : ∀ x, p x x = true) (l : List α) : listB p l l = true := by
  unfold listB
  rw [Bool.and_eq_true]
  refine ⟨by simp, ?_⟩
  rw [List.all_eq_true]
  intro x hx
  have : x.1 = x.2 := by
    obtain ⟨i, hi, rfl⟩ := List.getElem_of_mem hx
    simp
  rw [this]
  exact h _
theorem sameM_self (m : Md) : sameM m m = true := by
  have hi : ∀ x : In, sameI x x = true := fun x => by simp [sameI, jba_refl]
  have ht : ∀ x : Tm, sameT x x = true := fun x => by simp [sameT]
  have hb : ∀ x : Bk, sameB x x = true := fun x => by simp [sameB, list_refl hi, ht]
  have hf : ∀ x : Fn, sameF x x = true := fun x => by simp [sameF, list_refl hb, jba_refl]
  have hg : ∀ x : Gl, sameG x x = true := fun x => by simp [sameG, jba_refl]
  unfold sameM
  rw [list_refl hf, list_refl hg]
  rfl
set_option maxRecDepth 100000 in
set_option maxHeartbeats 4000000 in
theorem bback_yy (m : Md) (F G : Option Addr) (cf cg : Nat) (l : List UInt8) (W : World) (hok : MdOk m ∧ MdW m) (hl : l.length ≤ 140737488355328) (hS : MdAt W (.slice F m.f.length cf) (.slice G m.g.length cg) m) (he : bytesE m = 0) (hf : takeE l = 0) :
    Calls Try.prog 3 #[.agg #[.slice F m.f.length cf, .slice G m.g.length cg], .string (strB l)] W fun e w' => e = .returned (.bool true) ∧ Below W.heap.size W w' := by
  obtain ⟨nf, hnf⟩ : ∃ n, m.f.length = n := ⟨_, rfl⟩
  obtain ⟨ng, hng⟩ : ∃ n, m.g.length = n := ⟨_, rfl⟩
  rw [hnf, hng] at hS ⊢
  have HOK := Lib.hid hok
  have HNF := Lib.hid hnf
  have HNG := Lib.hid hng
  have HS := Lib.hid hS
  have HX0 := Lib.hid (show Whole (W.alloc (.cells #[.slice F nf cf, .slice G ng cg] 25)) W.heap.size 25 #[.slice F nf cf, .slice G ng cg] from heap_alloc_new _ _)
  have HB0 := Lib.hid (show Below W.heap.size W (W.alloc (.cells #[.slice F nf cf, .slice G ng cg] 25)) from balloc (Below.refl _ W) _)
  have HSH := Lib.hid (fun U => bshown_any U)
  have HBY := Lib.hid (fun (U : World) (hU : Below W.heap.size W U) => bytes_any m F G nf cf ng cg U hok.1 hok.2 hnf hng (hS.next hU))
  have HTK := Lib.hid (fun (U : World) => rtake_any l U hl)
  have HTN := Lib.hid (md_w (take_n l))
  have hb := bytes_zero he
  have htb := take_bytes hok.2 hb.1 hb.2.1
  rw [he, hb.2.2] at HBY
  have HT1 := Lib.hid (fun (U : World) => rtake_any (mdL m) U (by have := hb.2.1; omega))
  unfold TakePostB at HT1
  rw [htb.1, htb.2, hnf, hng] at HT1
  have HSM := Lib.hid (fun (A A' : Option Addr) (a a' : Nat) (U : World) (hU : Below W.heap.size W U) (hM : MdAt U (.slice A nf a) (.slice A' ng a') m) => refSame_any m m A A' F G nf a ng a' nf cf ng cg U hok.1 hok.1 hnf hng hnf hng hM (hS.next hU))
  rw [sameM_self] at HSM
  obtain ⟨t, ht⟩ : ∃ t, strB (mdL m) = t := ⟨_, rfl⟩
  rw [ht] at HBY HT1
  have hk := take_ok hf
  have hx0 : bytesE (takeM l) = 0 ∧ bytesL (takeM l) = l := by
    have h1 : bytesE (takeM l) = 0 := by
      unfold bytesE
      rw [if_pos hk.2.1, if_neg]
      rw [← hk.2.2.1]
      have := hk.2.2.2
      omega
    refine ⟨h1, ?_⟩
    unfold bytesL
    rw [if_pos h1, ← hk.2.2.1]
  have HX := Lib.hid hx0
  obtain ⟨f, hff⟩ : ∃ f, takeE l = f := ⟨_, rfl⟩
  have HFE := Lib.hid hff
  rw [hff] at hf
  subst hf
  obtain ⟨X, hX⟩ : ∃ X, strB l = X := ⟨_, rfl⟩
  rw [hX] at HTK ⊢
  have HXX := Lib.hid hX
  have p1 := (str_same (rfl : X = X)).1
  have p2 := (str_same (rfl : X = X)).2
  clear hok hS hnf hng he hl hb htb ht hk hx0 hff hX
  go_enter Try.func3, Try.ntmps3
  go_wp2_with fail
  refine (HSH.out _).mono ?_
  rintro e w1 ⟨rfl, h1⟩
  have X1 := Lib.hid (show Whole w1 W.heap.size 25 #[.slice F nf cf, .slice G ng cg] from (h1.block _ (by rw [World.size_alloc]; omega)).trans HX0.out)
  have B1 := Lib.hid (bthen HB0.out h1)
  clear h1
  have b10 : w1.cell? ⟨W.heap.size, 0, none⟩ = some (.slice F nf cf) := X1.out.cell 0
  have b11 : w1.cell? ⟨W.heap.size, 1, none⟩ = some (.slice G ng cg) := X1.out.cell 1
  go_wp2_with fail
  refine (HBY.out w1 B1.out).mono ?_
  rintro e w2 ⟨rfl, h2⟩
  have X2 := Lib.hid (show Whole w2 W.heap.size 25 #[.slice F nf cf, .slice G ng cg] from (h2.block _ X1.out.lt).trans X1.out)
  have B2 := Lib.hid (bthen B1.out h2)
  clear h2 b10 b11
  have b20 : w2.cell? ⟨W.heap.size, 0, none⟩ = some (.slice F nf cf) := X2.out.cell 0
  have b21 : w2.cell? ⟨W.heap.size, 1, none⟩ = some (.slice G ng cg) := X2.out.cell 1
  go_wp2_with fail
  refine (HT1.out w2).mono ?_
  rintro e w3 ⟨A, a, A', a', rfl, hM, h3⟩
  obtain ⟨om, hom⟩ : ∃ o, Obj.cells #[.slice A nf a, .slice A' ng a'] 25 (0, 0) = o := ⟨_, rfl⟩
  have B3 := Lib.hid (balloc (bthen B2.out h3) om)
  have HM := Lib.hid (hM.next (balloc (Below.refl _ w3) om))
  have X3 := Lib.hid (show Whole (w3.alloc om) W.heap.size 25 #[.slice F nf cf, .slice G ng cg] from (Lib.alloc_old w3 om _ (by have := X2.out.lt; have := h3.size; omega)).trans ((h3.block _ X2.out.lt).trans X2.out))
  have V3 := Lib.hid (show Whole (w3.alloc om) w3.heap.size 25 #[.slice A nf a, .slice A' ng a'] from by unfold Whole; rw [heap_alloc_new, hom])
  obtain ⟨w4, hw4⟩ : ∃ V, w3.alloc om = V := ⟨_, rfl⟩
  rw [hw4] at B3 HM X3 V3
  subst hom
  clear hM h3 b20 b21
  have m0 : w4.cell? ⟨w3.heap.size, 0, none⟩ = some (.slice A nf a) := V3.out.cell 0
  have m1 : w4.cell? ⟨w3.heap.size, 1, none⟩ = some (.slice A' ng a') := V3.out.cell 1
  have b0 : w4.cell? ⟨W.heap.size, 0, none⟩ = some (.slice F nf cf) := X3.out.cell 0
  have b1 : w4.cell? ⟨W.heap.size, 1, none⟩ = some (.slice G ng cg) := X3.out.cell 1
  go_wp2_with fail
  try rw [hw4]
  clear hw4
  refine (HSM.out A A' a a' w4 B3.out HM.out).mono ?_
  rintro e w5 ⟨rfl, h5⟩
  have B5 := Lib.hid (bthen B3.out h5)
  clear h5 m0 m1 b0 b1
  go_wp2_with fail
  refine (HTK.out w5).mono ?_
  rintro e w6 ⟨C, c, C', c', rfl, hM6, h6⟩
  rw [HFE.out]
  obtain ⟨kf, hkf⟩ : ∃ n, (takeM l).f.length = n := ⟨_, rfl⟩
  obtain ⟨kg, hkg⟩ : ∃ n, (takeM l).g.length = n := ⟨_, rfl⟩
  rw [hkf, hkg] at hM6 ⊢
  obtain ⟨on, hon⟩ : ∃ o, Obj.cells #[.slice C kf c, .slice C' kg c'] 25 (0, 0) = o := ⟨_, rfl⟩
  have B7 := Lib.hid (balloc (bthen B5.out h6) on)
  have HBX := Lib.hid (bytes_any (takeM l) C C' kf c kg c' (w6.alloc on) HTN.out.1 HTN.out.2 hkf hkg (hM6.next (balloc (Below.refl _ w6) on)))
  rw [HX.out.1, HX.out.2, HXX.out] at HBX
  subst hon
  clear hM6 h6 hkf hkg
  go_wp2_with fail
  refine HBX.out.mono ?_
  rintro e w8 ⟨rfl, h8⟩
  have B8 := Lib.hid (bthen B7.out h8)
  clear h8
  go_wp2_with fail
  go_ret
  exact ⟨rfl, B8.out⟩
set_option maxRecDepth 100000 in
set_option maxHeartbeats 4000000 in
theorem bback_yn (m : Md) (F G : Option Addr) (cf cg : Nat) (l : List UInt8) (W : World) (hok : MdOk m ∧ MdW m) (hl : l.length ≤ 140737488355328) (hS : MdAt W (.slice F m.f.length cf) (.slice G m.g.length cg) m) (he : bytesE m = 0) (hf : takeE l ≠ 0) :
    Calls Try.prog 3 #[.agg #[.slice F m.f.length cf, .slice G m.g.length cg], .string (strB l)] W fun e w' => e = .returned (.bool true) ∧ Below W.heap.size W w' := by
  obtain ⟨nf, hnf⟩ : ∃ n, m.f.length = n := ⟨_, rfl⟩
  obtain ⟨ng, hng⟩ : ∃ n, m.g.length = n := ⟨_, rfl⟩
  rw [hnf, hng] at hS ⊢
  have HOK := Lib.hid hok
  have HNF := Lib.hid hnf
  have HNG := Lib.hid hng
  have HS := Lib.hid hS
  have HX0 := Lib.hid (show Whole (W.alloc (.cells #[.slice F nf cf, .slice G ng cg] 25)) W.heap.size 25 #[.slice F nf cf, .slice G ng cg] from heap_alloc_new _ _)
  have HB0 := Lib.hid (show Below W.heap.size W (W.alloc (.cells #[.slice F nf cf, .slice G ng cg] 25)) from balloc (Below.refl _ W) _)
  have HSH := Lib.hid (fun U => bshown_any U)
  have HBY := Lib.hid (fun (U : World) (hU : Below W.heap.size W U) => bytes_any m F G nf cf ng cg U hok.1 hok.2 hnf hng (hS.next hU))
  have HTK := Lib.hid (fun (U : World) => rtake_any l U hl)
  have HTN := Lib.hid (md_w (take_n l))
  have hb := bytes_zero he
  have htb := take_bytes hok.2 hb.1 hb.2.1
  rw [he, hb.2.2] at HBY
  have HT1 := Lib.hid (fun (U : World) => rtake_any (mdL m) U (by have := hb.2.1; omega))
  unfold TakePostB at HT1
  rw [htb.1, htb.2, hnf, hng] at HT1
  have HSM := Lib.hid (fun (A A' : Option Addr) (a a' : Nat) (U : World) (hU : Below W.heap.size W U) (hM : MdAt U (.slice A nf a) (.slice A' ng a') m) => refSame_any m m A A' F G nf a ng a' nf cf ng cg U hok.1 hok.1 hnf hng hnf hng hM (hS.next hU))
  rw [sameM_self] at HSM
  obtain ⟨t, ht⟩ : ∃ t, strB (mdL m) = t := ⟨_, rfl⟩
  rw [ht] at HBY HT1
  obtain ⟨f, hff⟩ : ∃ f, takeE l = f := ⟨_, rfl⟩
  have HFE := Lib.hid hff
  rw [hff] at hf
  have q9 : (f == 0) = false := by simpa using hf
  have q8 : (f != 0) = true := by simpa using hf
  obtain ⟨X, hX⟩ : ∃ X, strB l = X := ⟨_, rfl⟩
  rw [hX] at HTK ⊢
  have HXX := Lib.hid hX
  have p1 := (str_same (rfl : X = X)).1
  have p2 := (str_same (rfl : X = X)).2
  clear hok hS hnf hng he hf hl hb htb ht hff hX
  go_enter Try.func3, Try.ntmps3
  go_wp2_with fail
  refine (HSH.out _).mono ?_
  rintro e w1 ⟨rfl, h1⟩
  have X1 := Lib.hid (show Whole w1 W.heap.size 25 #[.slice F nf cf, .slice G ng cg] from (h1.block _ (by rw [World.size_alloc]; omega)).trans HX0.out)
  have B1 := Lib.hid (bthen HB0.out h1)
  clear h1
  have b10 : w1.cell? ⟨W.heap.size, 0, none⟩ = some (.slice F nf cf) := X1.out.cell 0
  have b11 : w1.cell? ⟨W.heap.size, 1, none⟩ = some (.slice G ng cg) := X1.out.cell 1
  go_wp2_with fail
  refine (HBY.out w1 B1.out).mono ?_
  rintro e w2 ⟨rfl, h2⟩
  have X2 := Lib.hid (show Whole w2 W.heap.size 25 #[.slice F nf cf, .slice G ng cg] from (h2.block _ X1.out.lt).trans X1.out)
  have B2 := Lib.hid (bthen B1.out h2)
  clear h2 b10 b11
  have b20 : w2.cell? ⟨W.heap.size, 0, none⟩ = some (.slice F nf cf) := X2.out.cell 0
  have b21 : w2.cell? ⟨W.heap.size, 1, none⟩ = some (.slice G ng cg) := X2.out.cell 1
  go_wp2_with fail
  refine (HT1.out w2).mono ?_
  rintro e w3 ⟨A, a, A', a', rfl, hM, h3⟩
  obtain ⟨om, hom⟩ : ∃ o, Obj.cells #[.slice A nf a, .slice A' ng a'] 25 (0, 0) = o := ⟨_, rfl⟩
  have B3 := Lib.hid (balloc (bthen B2.out h3) om)
  have HM := Lib.hid (hM.next (balloc (Below.refl _ w3) om))
  have X3 := Lib.hid (show Whole (w3.alloc om) W.heap.size 25 #[.slice F nf cf, .slice G ng cg] from (Lib.alloc_old w3 om _ (by have := X2.out.lt; have := h3.size; omega)).trans ((h3.block _ X2.out.lt).trans X2.out))
  have V3 := Lib.hid (show Whole (w3.alloc om) w3.heap.size 25 #[.slice A nf a, .slice A' ng a'] from by unfold Whole; rw [heap_alloc_new, hom])
  obtain ⟨w4, hw4⟩ : ∃ V, w3.alloc om = V := ⟨_, rfl⟩
  rw [hw4] at B3 HM X3 V3
  subst hom
  clear hM h3 b20 b21
  have m0 : w4.cell? ⟨w3.heap.size, 0, none⟩ = some (.slice A nf a) := V3.out.cell 0
  have m1 : w4.cell? ⟨w3.heap.size, 1, none⟩ = some (.slice A' ng a') := V3.out.cell 1
  have b0 : w4.cell? ⟨W.heap.size, 0, none⟩ = some (.slice F nf cf) := X3.out.cell 0
  have b1 : w4.cell? ⟨W.heap.size, 1, none⟩ = some (.slice G ng cg) := X3.out.cell 1
  go_wp2_with fail
  try rw [hw4]
  clear hw4
  refine (HSM.out A A' a a' w4 B3.out HM.out).mono ?_
  rintro e w5 ⟨rfl, h5⟩
  have B5 := Lib.hid (bthen B3.out h5)
  clear h5 m0 m1 b0 b1
  go_wp2_with fail
  refine (HTK.out w5).mono ?_
  rintro e w6 ⟨C, c, C', c', rfl, hM6, h6⟩
  rw [HFE.out]
  obtain ⟨kf, hkf⟩ : ∃ n, (takeM l).f.length = n := ⟨_, rfl⟩
  obtain ⟨kg, hkg⟩ : ∃ n, (takeM l).g.length = n := ⟨_, rfl⟩
  rw [hkf, hkg] at hM6 ⊢
  obtain ⟨on, hon⟩ : ∃ o, Obj.cells #[.slice C kf c, .slice C' kg c'] 25 (0, 0) = o := ⟨_, rfl⟩
  have B7 := Lib.hid (balloc (bthen B5.out h6) on)
  have HBX := Lib.hid (bytes_any (takeM l) C C' kf c kg c' (w6.alloc on) HTN.out.1 HTN.out.2 hkf hkg (hM6.next (balloc (Below.refl _ w6) on)))
  subst hon
  clear hM6 h6 hkf hkg
  go_wp2_with fail
  refine HBX.out.mono ?_
  rintro e w8 ⟨rfl, h8⟩
  have B8 := Lib.hid (bthen B7.out h8)
  clear h8
  go_wp2_with fail
  go_ret
  exact ⟨rfl, B8.out⟩
set_option maxRecDepth 100000 in
set_option maxHeartbeats 4000000 in
theorem bback_ny (m : Md) (F G : Option Addr) (cf cg : Nat) (l : List UInt8) (W : World) (hok : MdOk m ∧ MdW m) (hl : l.length ≤ 140737488355328) (hS : MdAt W (.slice F m.f.length cf) (.slice G m.g.length cg) m) (he : bytesE m ≠ 0) (hf : takeE l = 0) :
    Calls Try.prog 3 #[.agg #[.slice F m.f.length cf, .slice G m.g.length cg], .string (strB l)] W fun e w' => e = .returned (.bool true) ∧ Below W.heap.size W w' := by
  obtain ⟨nf, hnf⟩ : ∃ n, m.f.length = n := ⟨_, rfl⟩
  obtain ⟨ng, hng⟩ : ∃ n, m.g.length = n := ⟨_, rfl⟩
  rw [hnf, hng] at hS ⊢
  have HOK := Lib.hid hok
  have HNF := Lib.hid hnf
  have HNG := Lib.hid hng
  have HS := Lib.hid hS
  have HX0 := Lib.hid (show Whole (W.alloc (.cells #[.slice F nf cf, .slice G ng cg] 25)) W.heap.size 25 #[.slice F nf cf, .slice G ng cg] from heap_alloc_new _ _)
  have HB0 := Lib.hid (show Below W.heap.size W (W.alloc (.cells #[.slice F nf cf, .slice G ng cg] 25)) from balloc (Below.refl _ W) _)
  have HSH := Lib.hid (fun U => bshown_any U)
  have HBY := Lib.hid (fun (U : World) (hU : Below W.heap.size W U) => bytes_any m F G nf cf ng cg U hok.1 hok.2 hnf hng (hS.next hU))
  have HTK := Lib.hid (fun (U : World) => rtake_any l U hl)
  have HTN := Lib.hid (md_w (take_n l))
  obtain ⟨e, hee⟩ : ∃ e, bytesE m = e := ⟨_, rfl⟩
  obtain ⟨t, htt⟩ : ∃ t, strB (bytesL m) = t := ⟨_, rfl⟩
  rw [hee, htt] at HBY
  rw [hee] at he
  have q1 : (e == 0) = false := by simpa using he
  have q2 : (e != 0) = true := by simpa using he
  have hk := take_ok hf
  have hx0 : bytesE (takeM l) = 0 ∧ bytesL (takeM l) = l := by
    have h1 : bytesE (takeM l) = 0 := by
      unfold bytesE
      rw [if_pos hk.2.1, if_neg]
      rw [← hk.2.2.1]
      have := hk.2.2.2
      omega
    refine ⟨h1, ?_⟩
    unfold bytesL
    rw [if_pos h1, ← hk.2.2.1]
  have HX := Lib.hid hx0
  obtain ⟨f, hff⟩ : ∃ f, takeE l = f := ⟨_, rfl⟩
  have HFE := Lib.hid hff
  rw [hff] at hf
  subst hf
  obtain ⟨X, hX⟩ : ∃ X, strB l = X := ⟨_, rfl⟩
  rw [hX] at HTK ⊢
  have HXX := Lib.hid hX
  have p1 := (str_same (rfl : X = X)).1
  have p2 := (str_same (rfl : X = X)).2
  clear hok hS hnf hng he hl hee htt hk hx0 hff hX
  go_enter Try.func3, Try.ntmps3
  go_wp2_with fail
  refine (HSH.out _).mono ?_
  rintro e w1 ⟨rfl, h1⟩
  have X1 := Lib.hid (show Whole w1 W.heap.size 25 #[.slice F nf cf, .slice G ng cg] from (h1.block _ (by rw [World.size_alloc]; omega)).trans HX0.out)
  have B1 := Lib.hid (bthen HB0.out h1)
  clear h1
  have b10 : w1.cell? ⟨W.heap.size, 0, none⟩ = some (.slice F nf cf) := X1.out.cell 0
  have b11 : w1.cell? ⟨W.heap.size, 1, none⟩ = some (.slice G ng cg) := X1.out.cell 1
  go_wp2_with fail
  refine (HBY.out w1 B1.out).mono ?_
  rintro e w2 ⟨rfl, h2⟩
  have X2 := Lib.hid (show Whole w2 W.heap.size 25 #[.slice F nf cf, .slice G ng cg] from (h2.block _ X1.out.lt).trans X1.out)
  have B2 := Lib.hid (bthen B1.out h2)
  clear h2 b10 b11
  have b20 : w2.cell? ⟨W.heap.size, 0, none⟩ = some (.slice F nf cf) := X2.out.cell 0
  have b21 : w2.cell? ⟨W.heap.size, 1, none⟩ = some (.slice G ng cg) := X2.out.cell 1
  clear b20 b21
  go_wp2_with fail
  refine (HTK.out w2).mono ?_
  rintro e w6 ⟨C, c, C', c', rfl, hM6, h6⟩
  rw [HFE.out]
  obtain ⟨kf, hkf⟩ : ∃ n, (takeM l).f.length = n := ⟨_, rfl⟩
  obtain ⟨kg, hkg⟩ : ∃ n, (takeM l).g.length = n := ⟨_, rfl⟩
  rw [hkf, hkg] at hM6 ⊢
  obtain ⟨on, hon⟩ : ∃ o, Obj.cells #[.slice C kf c, .slice C' kg c'] 25 (0, 0) = o := ⟨_, rfl⟩
  have B7 := Lib.hid (balloc (bthen B2.out h6) on)
  have HBX := Lib.hid (bytes_any (takeM l) C C' kf c kg c' (w6.alloc on) HTN.out.1 HTN.out.2 hkf hkg (hM6.next (balloc (Below.refl _ w6) on)))
  rw [HX.out.1, HX.out.2, HXX.out] at HBX
  subst hon
  clear hM6 h6 hkf hkg
  go_wp2_with fail
  refine HBX.out.mono ?_
  rintro e w8 ⟨rfl, h8⟩
  have B8 := Lib.hid (bthen B7.out h8)
  clear h8
  go_wp2_with fail
  go_ret
  exact ⟨rfl, B8.out⟩
set_option maxRecDepth 100000 in
set_option maxHeartbeats 4000000 in
theorem bback_nn (m : Md) (F G : Option Addr) (cf cg : Nat) (l : List UInt8) (W : World) (hok : MdOk m ∧ MdW m) (hl : l.length ≤ 140737488355328) (hS : MdAt W (.slice F m.f.length cf) (.slice G m.g.length cg) m) (he : bytesE m ≠ 0) (hf : takeE l ≠ 0) :
    Calls Try.prog 3 #[.agg #[.slice F m.f.length cf, .slice G m.g.length cg], .string (strB l)] W fun e w' => e = .returned (.bool true) ∧ Below W.heap.size W w' := by
  obtain ⟨nf, hnf⟩ : ∃ n, m.f.length = n := ⟨_, rfl⟩
  obtain ⟨ng, hng⟩ : ∃ n, m.g.length = n := ⟨_, rfl⟩
  rw [hnf, hng] at hS ⊢
  have HOK := Lib.hid hok
  have HNF := Lib.hid hnf
  have HNG := Lib.hid hng
  have HS := Lib.hid hS
  have HX0 := Lib.hid (show Whole (W.alloc (.cells #[.slice F nf cf, .slice G ng cg] 25)) W.heap.size 25 #[.slice F nf cf, .slice G ng cg] from heap_alloc_new _ _)
  have HB0 := Lib.hid (show Below W.heap.size W (W.alloc (.cells #[.slice F nf cf, .slice G ng cg] 25)) from balloc (Below.refl _ W) _)
  have HSH := Lib.hid (fun U => bshown_any U)
  have HBY := Lib.hid (fun (U : World) (hU : Below W.heap.size W U) => bytes_any m F G nf cf ng cg U hok.1 hok.2 hnf hng (hS.next hU))
  have HTK := Lib.hid (fun (U : World) => rtake_any l U hl)
  have HTN := Lib.hid (md_w (take_n l))
  obtain ⟨e, hee⟩ : ∃ e, bytesE m = e := ⟨_, rfl⟩
  obtain ⟨t, htt⟩ : ∃ t, strB (bytesL m) = t := ⟨_, rfl⟩
  rw [hee, htt] at HBY
  rw [hee] at he
  have q1 : (e == 0) = false := by simpa using he
  have q2 : (e != 0) = true := by simpa using he
  obtain ⟨f, hff⟩ : ∃ f, takeE l = f := ⟨_, rfl⟩
  have HFE := Lib.hid hff
  rw [hff] at hf
  have q9 : (f == 0) = false := by simpa using hf
  have q8 : (f != 0) = true := by simpa using hf
  obtain ⟨X, hX⟩ : ∃ X, strB l = X := ⟨_, rfl⟩
  rw [hX] at HTK ⊢
  have HXX := Lib.hid hX
  have p1 := (str_same (rfl : X = X)).1
  have p2 := (str_same (rfl : X = X)).2
  clear hok hS hnf hng he hf hl hee htt hff hX
  go_enter Try.func3, Try.ntmps3
  go_wp2_with fail
  refine (HSH.out _).mono ?_
  rintro e w1 ⟨rfl, h1⟩
  have X1 := Lib.hid (show Whole w1 W.heap.size 25 #[.slice F nf cf, .slice G ng cg] from (h1.block _ (by rw [World.size_alloc]; omega)).trans HX0.out)
  have B1 := Lib.hid (bthen HB0.out h1)
  clear h1
  have b10 : w1.cell? ⟨W.heap.size, 0, none⟩ = some (.slice F nf cf) := X1.out.cell 0
  have b11 : w1.cell? ⟨W.heap.size, 1, none⟩ = some (.slice G ng cg) := X1.out.cell 1
  go_wp2_with fail
  refine (HBY.out w1 B1.out).mono ?_
  rintro e w2 ⟨rfl, h2⟩
  have X2 := Lib.hid (show Whole w2 W.heap.size 25 #[.slice F nf cf, .slice G ng cg] from (h2.block _ X1.out.lt).trans X1.out)
  have B2 := Lib.hid (bthen B1.out h2)
  clear h2 b10 b11
  have b20 : w2.cell? ⟨W.heap.size, 0, none⟩ = some (.slice F nf cf) := X2.out.cell 0
  have b21 : w2.cell? ⟨W.heap.size, 1, none⟩ = some (.slice G ng cg) := X2.out.cell 1
  clear b20 b21
  go_wp2_with fail
  refine (HTK.out w2).mono ?_
  rintro e w6 ⟨C, c, C', c', rfl, hM6, h6⟩
  rw [HFE.out]
  obtain ⟨kf, hkf⟩ : ∃ n, (takeM l).f.length = n := ⟨_, rfl⟩
  obtain ⟨kg, hkg⟩ : ∃ n, (takeM l).g.length = n := ⟨_, rfl⟩
  rw [hkf, hkg] at hM6 ⊢
  obtain ⟨on, hon⟩ : ∃ o, Obj.cells #[.slice C kf c, .slice C' kg c'] 25 (0, 0) = o := ⟨_, rfl⟩
  have B7 := Lib.hid (balloc (bthen B2.out h6) on)
  have HBX := Lib.hid (bytes_any (takeM l) C C' kf c kg c' (w6.alloc on) HTN.out.1 HTN.out.2 hkf hkg (hM6.next (balloc (Below.refl _ w6) on)))
  subst hon
  clear hM6 h6 hkf hkg
  go_wp2_with fail
  refine HBX.out.mono ?_
  rintro e w8 ⟨rfl, h8⟩
  have B8 := Lib.hid (bthen B7.out h8)
  clear h8
  go_wp2_with fail
  go_ret
  exact ⟨rfl, B8.out⟩
theorem bback_all (m : Md) (F G : Option Addr) (cf cg : Nat) (x : ByteArray) (W : World) (hok : MdOk m ∧ MdW m) (hx : x.size ≤ 140737488355328) (hS : MdAt W (.slice F m.f.length cf) (.slice G m.g.length cg) m) :
    Calls Try.prog 3 #[.agg #[.slice F m.f.length cf, .slice G m.g.length cg], .string x] W fun e w' => e = .returned (.bool true) ∧ Below W.heap.size W w' := by
  rw [← str_rt x]
  have hl : x.data.toList.length ≤ 140737488355328 := by rw [size_data]; exact hx
  by_cases he : bytesE m = 0
  · by_cases hf : takeE x.data.toList = 0
    · exact bback_yy m F G cf cg _ W hok hl hS he hf
    · exact bback_yn m F G cf cg _ W hok hl hS he hf
  · by_cases hf : takeE x.data.toList = 0
    · exact bback_ny m F G cf cg _ W hok hl hS he hf
    · exact bback_nn m F G cf cg _ W hok hl hS he hf
end Q
end Go.Proofs.Ytjldddpchiaalaa
