/- Package bit: the law BitChecks. -/
import Derived.Test.YtjldddpchiaalaaUN
namespace Go.Proofs.Ytjldddpchiaalaa
open Go.RowKit
namespace Q

set_option maxRecDepth 100000 in
set_option maxHeartbeats 4000000 in
theorem bchecks_Az (m : Md) (F G : Option Addr) (cf cg : Nat) (l : List UInt8) (W : World) (hok : MdOk m ∧ MdW m) (hl : l.length ≤ 140737488355328) (hS : MdAt W (.slice F m.f.length cf) (.slice G m.g.length cg) m) (hc : checkE m ≠ 0) (hf : takeE l = 0) :
    Calls Try.prog 6 #[.agg #[.slice F m.f.length cf, .slice G m.g.length cg], .string (strB l)] W fun e w' => e = .returned (.bool true) ∧ Below W.heap.size W w' := by
  obtain ⟨nf, hnf⟩ : ∃ n, m.f.length = n := ⟨_, rfl⟩
  obtain ⟨ng, hng⟩ : ∃ n, m.g.length = n := ⟨_, rfl⟩
  rw [hnf, hng] at hS ⊢
  have HOK := Lib.hid hok
  have HNF := Lib.hid hnf
  have HNG := Lib.hid hng
  have HS := Lib.hid hS
  have HX0 := Lib.hid (show Whole (W.alloc (.cells #[.slice F nf cf, .slice G ng cg] 25)) W.heap.size 25 #[.slice F nf cf, .slice G ng cg] from heap_alloc_new _ _)
  have HB0 := Lib.hid (show Below W.heap.size W (W.alloc (.cells #[.slice F nf cf, .slice G ng cg] 25)) from balloc (Below.refl _ W) _)
  have HSH := Lib.hid (fun U => bshown_any U)
  have HBY := Lib.hid (fun (U : World) (hU : Below W.heap.size W U) => bytes_any m F G nf cf ng cg U hok.1 hok.2 hnf hng (hS.next hU))
  have HRC := Lib.hid (fun (U : World) (hU : Below W.heap.size W U) => refCheck_any m F G nf cf ng cg U hok.1 hok.2 hnf hng (hS.next hU))
  have HTK := Lib.hid (fun (U : World) => rtake_any l U hl)
  have HTN := Lib.hid (md_w (take_n l))
  have he : bytesE m = checkE m ∧ bytesL m = [] := by
    have h : bytesE m = checkE m := by unfold bytesE; rw [if_neg hc]
    refine ⟨h, ?_⟩
    unfold bytesL
    rw [h, if_neg hc]
  rw [he.1, he.2] at HBY
  obtain ⟨c, hcc⟩ : ∃ c, checkE m = c := ⟨_, rfl⟩
  rw [hcc] at HBY HRC hc
  have q1 : (c == 0) = false := by simpa using hc
  have q2 : (c != 0) = true := by simpa using hc
  have q3 : (c != c) = false := by simp
  obtain ⟨z, hz⟩ : ∃ z, (strB []).size = z := ⟨_, rfl⟩
  have z0 : z = 0 := by rw [← hz]; rfl
  subst z0
  clear hcc he
  have hk := take_ok hf
  have HK := Lib.hid hk
  obtain ⟨y, hy⟩ : ∃ y, (strB l).size = y := ⟨_, rfl⟩
  have hy6 : (y : Int) ≤ 65535 := by rw [← hy, strB_size]; have := hk.2.2.2; omega
  have d7 : decide ((y : Int) ≤ 65535) = true := decide_eq_true hy6
  obtain ⟨f, hff⟩ : ∃ f, takeE l = f := ⟨_, rfl⟩
  have HFE := Lib.hid hff
  rw [hff] at hf
  subst hf
  clear hok hS hnf hng hff hl hc hk
  go_enter Try.func6, Try.ntmps6
  go_wp2_with fail
  refine (HSH.out _).mono ?_
  rintro e w1 ⟨rfl, h1⟩
  have X1 := Lib.hid (show Whole w1 W.heap.size 25 #[.slice F nf cf, .slice G ng cg] from (h1.block _ (by rw [World.size_alloc]; omega)).trans HX0.out)
  have B1 := Lib.hid (bthen HB0.out h1)
  clear h1
  have b10 : w1.cell? ⟨W.heap.size, 0, none⟩ = some (.slice F nf cf) := X1.out.cell 0
  have b11 : w1.cell? ⟨W.heap.size, 1, none⟩ = some (.slice G ng cg) := X1.out.cell 1
  go_wp2_with fail
  refine (HBY.out w1 B1.out).mono ?_
  rintro e w2 ⟨rfl, h2⟩
  have X2 := Lib.hid (show Whole w2 W.heap.size 25 #[.slice F nf cf, .slice G ng cg] from (h2.block _ X1.out.lt).trans X1.out)
  have B2 := Lib.hid (bthen B1.out h2)
  clear h2 b10 b11
  have b20 : w2.cell? ⟨W.heap.size, 0, none⟩ = some (.slice F nf cf) := X2.out.cell 0
  have b21 : w2.cell? ⟨W.heap.size, 1, none⟩ = some (.slice G ng cg) := X2.out.cell 1
  go_wp2_with fail
  refine (HRC.out w2 B2.out).mono ?_
  rintro e w3 ⟨rfl, h3⟩
  have B3 := Lib.hid (bthen B2.out h3)
  clear h3 b20 b21
  go_wp2_with fail
  refine (HTK.out w3).mono ?_
  rintro e w4 ⟨A, a, A', a', rfl, hM, h4⟩
  rw [HFE.out]
  have B4 := Lib.hid (bthen B3.out h4)
  have HM := Lib.hid hM
  obtain ⟨kf, hkf⟩ : ∃ n, (takeM l).f.length = n := ⟨_, rfl⟩
  obtain ⟨kg, hkg⟩ : ∃ n, (takeM l).g.length = n := ⟨_, rfl⟩
  rw [hkf, hkg] at HM ⊢
  have HKF := Lib.hid hkf
  have HKG := Lib.hid hkg
  clear hM h4 hkf hkg
  have HB5 := Lib.hid (balloc (Below.refl w4.heap.size w4) (.cells #[.slice A kf a, .slice A' kg a'] 25))
  go_wp2_with fail
  refine (refCheck_any (takeM l) A A' kf a kg a' _ HTN.out.1 HTN.out.2 HKF.out HKG.out (HM.out.next HB5.out)).mono ?_
  rw [HK.out.2.1]
  rintro e w5 ⟨rfl, h5⟩
  have B5 := Lib.hid (bthen (bthen B4.out HB5.out) h5)
  clear h5
  go_wp2_with fail
  go_ret
  exact ⟨rfl, B5.out⟩
set_option maxRecDepth 100000 in
set_option maxHeartbeats 4000000 in
theorem bchecks_An (m : Md) (F G : Option Addr) (cf cg : Nat) (l : List UInt8) (W : World) (hok : MdOk m ∧ MdW m) (hl : l.length ≤ 140737488355328) (hS : MdAt W (.slice F m.f.length cf) (.slice G m.g.length cg) m) (hc : checkE m ≠ 0) (hf : takeE l ≠ 0) :
    Calls Try.prog 6 #[.agg #[.slice F m.f.length cf, .slice G m.g.length cg], .string (strB l)] W fun e w' => e = .returned (.bool true) ∧ Below W.heap.size W w' := by
  obtain ⟨nf, hnf⟩ : ∃ n, m.f.length = n := ⟨_, rfl⟩
  obtain ⟨ng, hng⟩ : ∃ n, m.g.length = n := ⟨_, rfl⟩
  rw [hnf, hng] at hS ⊢
  have HOK := Lib.hid hok
  have HNF := Lib.hid hnf
  have HNG := Lib.hid hng
  have HS := Lib.hid hS
  have HX0 := Lib.hid (show Whole (W.alloc (.cells #[.slice F nf cf, .slice G ng cg] 25)) W.heap.size 25 #[.slice F nf cf, .slice G ng cg] from heap_alloc_new _ _)
  have HB0 := Lib.hid (show Below W.heap.size W (W.alloc (.cells #[.slice F nf cf, .slice G ng cg] 25)) from balloc (Below.refl _ W) _)
  have HSH := Lib.hid (fun U => bshown_any U)
  have HBY := Lib.hid (fun (U : World) (hU : Below W.heap.size W U) => bytes_any m F G nf cf ng cg U hok.1 hok.2 hnf hng (hS.next hU))
  have HRC := Lib.hid (fun (U : World) (hU : Below W.heap.size W U) => refCheck_any m F G nf cf ng cg U hok.1 hok.2 hnf hng (hS.next hU))
  have HTK := Lib.hid (fun (U : World) => rtake_any l U hl)
  have HTN := Lib.hid (md_w (take_n l))
  have he : bytesE m = checkE m ∧ bytesL m = [] := by
    have h : bytesE m = checkE m := by unfold bytesE; rw [if_neg hc]
    refine ⟨h, ?_⟩
    unfold bytesL
    rw [h, if_neg hc]
  rw [he.1, he.2] at HBY
  obtain ⟨c, hcc⟩ : ∃ c, checkE m = c := ⟨_, rfl⟩
  rw [hcc] at HBY HRC hc
  have q1 : (c == 0) = false := by simpa using hc
  have q2 : (c != 0) = true := by simpa using hc
  have q3 : (c != c) = false := by simp
  obtain ⟨z, hz⟩ : ∃ z, (strB []).size = z := ⟨_, rfl⟩
  have z0 : z = 0 := by rw [← hz]; rfl
  subst z0
  clear hcc he
  obtain ⟨f, hff⟩ : ∃ f, takeE l = f := ⟨_, rfl⟩
  have HFE := Lib.hid hff
  rw [hff] at hf
  have q9 : (f == 0) = false := by simpa using hf
  have q8 : (f != 0) = true := by simpa using hf
  clear hok hS hnf hng hff hl hc hf
  go_enter Try.func6, Try.ntmps6
  go_wp2_with fail
  refine (HSH.out _).mono ?_
  rintro e w1 ⟨rfl, h1⟩
  have X1 := Lib.hid (show Whole w1 W.heap.size 25 #[.slice F nf cf, .slice G ng cg] from (h1.block _ (by rw [World.size_alloc]; omega)).trans HX0.out)
  have B1 := Lib.hid (bthen HB0.out h1)
  clear h1
  have b10 : w1.cell? ⟨W.heap.size, 0, none⟩ = some (.slice F nf cf) := X1.out.cell 0
  have b11 : w1.cell? ⟨W.heap.size, 1, none⟩ = some (.slice G ng cg) := X1.out.cell 1
  go_wp2_with fail
  refine (HBY.out w1 B1.out).mono ?_
  rintro e w2 ⟨rfl, h2⟩
  have X2 := Lib.hid (show Whole w2 W.heap.size 25 #[.slice F nf cf, .slice G ng cg] from (h2.block _ X1.out.lt).trans X1.out)
  have B2 := Lib.hid (bthen B1.out h2)
  clear h2 b10 b11
  have b20 : w2.cell? ⟨W.heap.size, 0, none⟩ = some (.slice F nf cf) := X2.out.cell 0
  have b21 : w2.cell? ⟨W.heap.size, 1, none⟩ = some (.slice G ng cg) := X2.out.cell 1
  go_wp2_with fail
  refine (HRC.out w2 B2.out).mono ?_
  rintro e w3 ⟨rfl, h3⟩
  have B3 := Lib.hid (bthen B2.out h3)
  clear h3 b20 b21
  go_wp2_with fail
  refine (HTK.out w3).mono ?_
  rintro e w4 ⟨A, a, A', a', rfl, hM, h4⟩
  rw [HFE.out]
  have B4 := Lib.hid (bthen B3.out h4)
  have HM := Lib.hid hM
  obtain ⟨kf, hkf⟩ : ∃ n, (takeM l).f.length = n := ⟨_, rfl⟩
  obtain ⟨kg, hkg⟩ : ∃ n, (takeM l).g.length = n := ⟨_, rfl⟩
  rw [hkf, hkg] at HM ⊢
  have HKF := Lib.hid hkf
  have HKG := Lib.hid hkg
  clear hM h4 hkf hkg
  go_wp2_with fail
  go_ret
  exact ⟨rfl, balloc B4.out _⟩
set_option maxRecDepth 100000 in
set_option maxHeartbeats 4000000 in
theorem bchecks_Bz (m : Md) (F G : Option Addr) (cf cg : Nat) (l : List UInt8) (W : World) (hok : MdOk m ∧ MdW m) (hl : l.length ≤ 140737488355328) (hS : MdAt W (.slice F m.f.length cf) (.slice G m.g.length cg) m) (hc : checkE m = 0) (he : bytesE m = 0) (hf : takeE l = 0) :
    Calls Try.prog 6 #[.agg #[.slice F m.f.length cf, .slice G m.g.length cg], .string (strB l)] W fun e w' => e = .returned (.bool true) ∧ Below W.heap.size W w' := by
  obtain ⟨nf, hnf⟩ : ∃ n, m.f.length = n := ⟨_, rfl⟩
  obtain ⟨ng, hng⟩ : ∃ n, m.g.length = n := ⟨_, rfl⟩
  rw [hnf, hng] at hS ⊢
  have HOK := Lib.hid hok
  have HNF := Lib.hid hnf
  have HNG := Lib.hid hng
  have HS := Lib.hid hS
  have HX0 := Lib.hid (show Whole (W.alloc (.cells #[.slice F nf cf, .slice G ng cg] 25)) W.heap.size 25 #[.slice F nf cf, .slice G ng cg] from heap_alloc_new _ _)
  have HB0 := Lib.hid (show Below W.heap.size W (W.alloc (.cells #[.slice F nf cf, .slice G ng cg] 25)) from balloc (Below.refl _ W) _)
  have HSH := Lib.hid (fun U => bshown_any U)
  have HBY := Lib.hid (fun (U : World) (hU : Below W.heap.size W U) => bytes_any m F G nf cf ng cg U hok.1 hok.2 hnf hng (hS.next hU))
  have HRC := Lib.hid (fun (U : World) (hU : Below W.heap.size W U) => refCheck_any m F G nf cf ng cg U hok.1 hok.2 hnf hng (hS.next hU))
  have HTK := Lib.hid (fun (U : World) => rtake_any l U hl)
  have HTN := Lib.hid (md_w (take_n l))
  have hb := bytes_zero he
  rw [he, hb.2.2] at HBY
  rw [hc] at HRC
  obtain ⟨z, hz⟩ : ∃ z, (strB (mdL m)).size = z := ⟨_, rfl⟩
  have hz6 : (z : Int) ≤ 65535 := by rw [← hz, strB_size]; omega
  have d6 : decide ((65535 : Int) < (z : Int)) = false := decide_eq_false (by omega)
  obtain ⟨t, ht⟩ : ∃ t, strB (mdL m) = t := ⟨_, rfl⟩
  rw [ht] at HBY hz
  clear hb ht he
  have hk := take_ok hf
  have HK := Lib.hid hk
  obtain ⟨y, hy⟩ : ∃ y, (strB l).size = y := ⟨_, rfl⟩
  have hy6 : (y : Int) ≤ 65535 := by rw [← hy, strB_size]; have := hk.2.2.2; omega
  have d7 : decide ((y : Int) ≤ 65535) = true := decide_eq_true hy6
  obtain ⟨f, hff⟩ : ∃ f, takeE l = f := ⟨_, rfl⟩
  have HFE := Lib.hid hff
  rw [hff] at hf
  subst hf
  clear hok hS hnf hng hff hl hc hk
  go_enter Try.func6, Try.ntmps6
  go_wp2_with fail
  refine (HSH.out _).mono ?_
  rintro e w1 ⟨rfl, h1⟩
  have X1 := Lib.hid (show Whole w1 W.heap.size 25 #[.slice F nf cf, .slice G ng cg] from (h1.block _ (by rw [World.size_alloc]; omega)).trans HX0.out)
  have B1 := Lib.hid (bthen HB0.out h1)
  clear h1
  have b10 : w1.cell? ⟨W.heap.size, 0, none⟩ = some (.slice F nf cf) := X1.out.cell 0
  have b11 : w1.cell? ⟨W.heap.size, 1, none⟩ = some (.slice G ng cg) := X1.out.cell 1
  go_wp2_with fail
  refine (HBY.out w1 B1.out).mono ?_
  rintro e w2 ⟨rfl, h2⟩
  have X2 := Lib.hid (show Whole w2 W.heap.size 25 #[.slice F nf cf, .slice G ng cg] from (h2.block _ X1.out.lt).trans X1.out)
  have B2 := Lib.hid (bthen B1.out h2)
  clear h2 b10 b11
  have b20 : w2.cell? ⟨W.heap.size, 0, none⟩ = some (.slice F nf cf) := X2.out.cell 0
  have b21 : w2.cell? ⟨W.heap.size, 1, none⟩ = some (.slice G ng cg) := X2.out.cell 1
  go_wp2_with fail
  refine (HRC.out w2 B2.out).mono ?_
  rintro e w3 ⟨rfl, h3⟩
  have B3 := Lib.hid (bthen B2.out h3)
  clear h3 b20 b21
  go_wp2_with fail
  refine (HTK.out w3).mono ?_
  rintro e w4 ⟨A, a, A', a', rfl, hM, h4⟩
  rw [HFE.out]
  have B4 := Lib.hid (bthen B3.out h4)
  have HM := Lib.hid hM
  obtain ⟨kf, hkf⟩ : ∃ n, (takeM l).f.length = n := ⟨_, rfl⟩
  obtain ⟨kg, hkg⟩ : ∃ n, (takeM l).g.length = n := ⟨_, rfl⟩
  rw [hkf, hkg] at HM ⊢
  have HKF := Lib.hid hkf
  have HKG := Lib.hid hkg
  clear hM h4 hkf hkg
  have HB5 := Lib.hid (balloc (Below.refl w4.heap.size w4) (.cells #[.slice A kf a, .slice A' kg a'] 25))
  go_wp2_with fail
  refine (refCheck_any (takeM l) A A' kf a kg a' _ HTN.out.1 HTN.out.2 HKF.out HKG.out (HM.out.next HB5.out)).mono ?_
  rw [HK.out.2.1]
  rintro e w5 ⟨rfl, h5⟩
  have B5 := Lib.hid (bthen (bthen B4.out HB5.out) h5)
  clear h5
  go_wp2_with fail
  go_ret
  exact ⟨rfl, B5.out⟩
set_option maxRecDepth 100000 in
set_option maxHeartbeats 4000000 in
theorem bchecks_Bn (m : Md) (F G : Option Addr) (cf cg : Nat) (l : List UInt8) (W : World) (hok : MdOk m ∧ MdW m) (hl : l.length ≤ 140737488355328) (hS : MdAt W (.slice F m.f.length cf) (.slice G m.g.length cg) m) (hc : checkE m = 0) (he : bytesE m = 0) (hf : takeE l ≠ 0) :
    Calls Try.prog 6 #[.agg #[.slice F m.f.length cf, .slice G m.g.length cg], .string (strB l)] W fun e w' => e = .returned (.bool true) ∧ Below W.heap.size W w' := by
  obtain ⟨nf, hnf⟩ : ∃ n, m.f.length = n := ⟨_, rfl⟩
  obtain ⟨ng, hng⟩ : ∃ n, m.g.length = n := ⟨_, rfl⟩
  rw [hnf, hng] at hS ⊢
  have HOK := Lib.hid hok
  have HNF := Lib.hid hnf
  have HNG := Lib.hid hng
  have HS := Lib.hid hS
  have HX0 := Lib.hid (show Whole (W.alloc (.cells #[.slice F nf cf, .slice G ng cg] 25)) W.heap.size 25 #[.slice F nf cf, .slice G ng cg] from heap_alloc_new _ _)
  have HB0 := Lib.hid (show Below W.heap.size W (W.alloc (.cells #[.slice F nf cf, .slice G ng cg] 25)) from balloc (Below.refl _ W) _)
  have HSH := Lib.hid (fun U => bshown_any U)
  have HBY := Lib.hid (fun (U : World) (hU : Below W.heap.size W U) => bytes_any m F G nf cf ng cg U hok.1 hok.2 hnf hng (hS.next hU))
  have HRC := Lib.hid (fun (U : World) (hU : Below W.heap.size W U) => refCheck_any m F G nf cf ng cg U hok.1 hok.2 hnf hng (hS.next hU))
  have HTK := Lib.hid (fun (U : World) => rtake_any l U hl)
  have HTN := Lib.hid (md_w (take_n l))
  have hb := bytes_zero he
  rw [he, hb.2.2] at HBY
  rw [hc] at HRC
  obtain ⟨z, hz⟩ : ∃ z, (strB (mdL m)).size = z := ⟨_, rfl⟩
  have hz6 : (z : Int) ≤ 65535 := by rw [← hz, strB_size]; omega
  have d6 : decide ((65535 : Int) < (z : Int)) = false := decide_eq_false (by omega)
  obtain ⟨t, ht⟩ : ∃ t, strB (mdL m) = t := ⟨_, rfl⟩
  rw [ht] at HBY hz
  clear hb ht he
  obtain ⟨f, hff⟩ : ∃ f, takeE l = f := ⟨_, rfl⟩
  have HFE := Lib.hid hff
  rw [hff] at hf
  have q9 : (f == 0) = false := by simpa using hf
  have q8 : (f != 0) = true := by simpa using hf
  clear hok hS hnf hng hff hl hc hf
  go_enter Try.func6, Try.ntmps6
  go_wp2_with fail
  refine (HSH.out _).mono ?_
  rintro e w1 ⟨rfl, h1⟩
  have X1 := Lib.hid (show Whole w1 W.heap.size 25 #[.slice F nf cf, .slice G ng cg] from (h1.block _ (by rw [World.size_alloc]; omega)).trans HX0.out)
  have B1 := Lib.hid (bthen HB0.out h1)
  clear h1
  have b10 : w1.cell? ⟨W.heap.size, 0, none⟩ = some (.slice F nf cf) := X1.out.cell 0
  have b11 : w1.cell? ⟨W.heap.size, 1, none⟩ = some (.slice G ng cg) := X1.out.cell 1
  go_wp2_with fail
  refine (HBY.out w1 B1.out).mono ?_
  rintro e w2 ⟨rfl, h2⟩
  have X2 := Lib.hid (show Whole w2 W.heap.size 25 #[.slice F nf cf, .slice G ng cg] from (h2.block _ X1.out.lt).trans X1.out)
  have B2 := Lib.hid (bthen B1.out h2)
  clear h2 b10 b11
  have b20 : w2.cell? ⟨W.heap.size, 0, none⟩ = some (.slice F nf cf) := X2.out.cell 0
  have b21 : w2.cell? ⟨W.heap.size, 1, none⟩ = some (.slice G ng cg) := X2.out.cell 1
  go_wp2_with fail
  refine (HRC.out w2 B2.out).mono ?_
  rintro e w3 ⟨rfl, h3⟩
  have B3 := Lib.hid (bthen B2.out h3)
  clear h3 b20 b21
  go_wp2_with fail
  refine (HTK.out w3).mono ?_
  rintro e w4 ⟨A, a, A', a', rfl, hM, h4⟩
  rw [HFE.out]
  have B4 := Lib.hid (bthen B3.out h4)
  have HM := Lib.hid hM
  obtain ⟨kf, hkf⟩ : ∃ n, (takeM l).f.length = n := ⟨_, rfl⟩
  obtain ⟨kg, hkg⟩ : ∃ n, (takeM l).g.length = n := ⟨_, rfl⟩
  rw [hkf, hkg] at HM ⊢
  have HKF := Lib.hid hkf
  have HKG := Lib.hid hkg
  clear hM h4 hkf hkg
  go_wp2_with fail
  go_ret
  exact ⟨rfl, balloc B4.out _⟩
set_option maxRecDepth 100000 in
set_option maxHeartbeats 4000000 in
theorem bchecks_Cz (m : Md) (F G : Option Addr) (cf cg : Nat) (l : List UInt8) (W : World) (hok : MdOk m ∧ MdW m) (hl : l.length ≤ 140737488355328) (hS : MdAt W (.slice F m.f.length cf) (.slice G m.g.length cg) m) (hc : checkE m = 0) (he : bytesE m ≠ 0) (hf : takeE l = 0) :
    Calls Try.prog 6 #[.agg #[.slice F m.f.length cf, .slice G m.g.length cg], .string (strB l)] W fun e w' => e = .returned (.bool true) ∧ Below W.heap.size W w' := by
  obtain ⟨nf, hnf⟩ : ∃ n, m.f.length = n := ⟨_, rfl⟩
  obtain ⟨ng, hng⟩ : ∃ n, m.g.length = n := ⟨_, rfl⟩
  rw [hnf, hng] at hS ⊢
  have HOK := Lib.hid hok
  have HNF := Lib.hid hnf
  have HNG := Lib.hid hng
  have HS := Lib.hid hS
  have HX0 := Lib.hid (show Whole (W.alloc (.cells #[.slice F nf cf, .slice G ng cg] 25)) W.heap.size 25 #[.slice F nf cf, .slice G ng cg] from heap_alloc_new _ _)
  have HB0 := Lib.hid (show Below W.heap.size W (W.alloc (.cells #[.slice F nf cf, .slice G ng cg] 25)) from balloc (Below.refl _ W) _)
  have HSH := Lib.hid (fun U => bshown_any U)
  have HBY := Lib.hid (fun (U : World) (hU : Below W.heap.size W U) => bytes_any m F G nf cf ng cg U hok.1 hok.2 hnf hng (hS.next hU))
  have HRC := Lib.hid (fun (U : World) (hU : Below W.heap.size W U) => refCheck_any m F G nf cf ng cg U hok.1 hok.2 hnf hng (hS.next hU))
  have HTK := Lib.hid (fun (U : World) => rtake_any l U hl)
  have HTN := Lib.hid (md_w (take_n l))
  have he4 : bytesE m = 4 ∧ bytesL m = [] := by
    have h : bytesE m = 4 := by
      unfold bytesE at he ⊢
      rw [if_pos hc] at he ⊢
      by_cases h6 : 65535 < (mdL m).length
      · rw [if_pos h6]
      · rw [if_neg h6] at he; exact absurd rfl he
    refine ⟨h, ?_⟩
    unfold bytesL
    rw [h, if_neg (by decide)]
  rw [he4.1, he4.2] at HBY
  rw [hc] at HRC
  obtain ⟨z, hz⟩ : ∃ z, (strB []).size = z := ⟨_, rfl⟩
  have z0 : z = 0 := by rw [← hz]; rfl
  subst z0
  clear he4 he
  have hk := take_ok hf
  have HK := Lib.hid hk
  obtain ⟨y, hy⟩ : ∃ y, (strB l).size = y := ⟨_, rfl⟩
  have hy6 : (y : Int) ≤ 65535 := by rw [← hy, strB_size]; have := hk.2.2.2; omega
  have d7 : decide ((y : Int) ≤ 65535) = true := decide_eq_true hy6
  obtain ⟨f, hff⟩ : ∃ f, takeE l = f := ⟨_, rfl⟩
  have HFE := Lib.hid hff
  rw [hff] at hf
  subst hf
  clear hok hS hnf hng hff hl hc hk
  go_enter Try.func6, Try.ntmps6
  go_wp2_with fail
  refine (HSH.out _).mono ?_
  rintro e w1 ⟨rfl, h1⟩
  have X1 := Lib.hid (show Whole w1 W.heap.size 25 #[.slice F nf cf, .slice G ng cg] from (h1.block _ (by rw [World.size_alloc]; omega)).trans HX0.out)
  have B1 := Lib.hid (bthen HB0.out h1)
  clear h1
  have b10 : w1.cell? ⟨W.heap.size, 0, none⟩ = some (.slice F nf cf) := X1.out.cell 0
  have b11 : w1.cell? ⟨W.heap.size, 1, none⟩ = some (.slice G ng cg) := X1.out.cell 1
  go_wp2_with fail
  refine (HBY.out w1 B1.out).mono ?_
  rintro e w2 ⟨rfl, h2⟩
  have X2 := Lib.hid (show Whole w2 W.heap.size 25 #[.slice F nf cf, .slice G ng cg] from (h2.block _ X1.out.lt).trans X1.out)
  have B2 := Lib.hid (bthen B1.out h2)
  clear h2 b10 b11
  have b20 : w2.cell? ⟨W.heap.size, 0, none⟩ = some (.slice F nf cf) := X2.out.cell 0
  have b21 : w2.cell? ⟨W.heap.size, 1, none⟩ = some (.slice G ng cg) := X2.out.cell 1
  go_wp2_with fail
  refine (HRC.out w2 B2.out).mono ?_
  rintro e w3 ⟨rfl, h3⟩
  have B3 := Lib.hid (bthen B2.out h3)
  clear h3 b20 b21
  go_wp2_with fail
  refine (HTK.out w3).mono ?_
  rintro e w4 ⟨A, a, A', a', rfl, hM, h4⟩
  rw [HFE.out]
  have B4 := Lib.hid (bthen B3.out h4)
  have HM := Lib.hid hM
  obtain ⟨kf, hkf⟩ : ∃ n, (takeM l).f.length = n := ⟨_, rfl⟩
  obtain ⟨kg, hkg⟩ : ∃ n, (takeM l).g.length = n := ⟨_, rfl⟩
  rw [hkf, hkg] at HM ⊢
  have HKF := Lib.hid hkf
  have HKG := Lib.hid hkg
  clear hM h4 hkf hkg
  have HB5 := Lib.hid (balloc (Below.refl w4.heap.size w4) (.cells #[.slice A kf a, .slice A' kg a'] 25))
  go_wp2_with fail
  refine (refCheck_any (takeM l) A A' kf a kg a' _ HTN.out.1 HTN.out.2 HKF.out HKG.out (HM.out.next HB5.out)).mono ?_
  rw [HK.out.2.1]
  rintro e w5 ⟨rfl, h5⟩
  have B5 := Lib.hid (bthen (bthen B4.out HB5.out) h5)
  clear h5
  go_wp2_with fail
  go_ret
  exact ⟨rfl, B5.out⟩
set_option maxRecDepth 100000 in
set_option maxHeartbeats 4000000 in
theorem bchecks_Cn (m : Md) (F G : Option Addr) (cf cg : Nat) (l : List UInt8) (W : World) (hok : MdOk m ∧ MdW m) (hl : l.length ≤ 140737488355328) (hS : MdAt W (.slice F m.f.length cf) (.slice G m.g.length cg) m) (hc : checkE m = 0) (he : bytesE m ≠ 0) (hf : takeE l ≠ 0) :
    Calls Try.prog 6 #[.agg #[.slice F m.f.length cf, .slice G m.g.length cg], .string (strB l)] W fun e w' => e = .returned (.bool true) ∧ Below W.heap.size W w' := by
  obtain ⟨nf, hnf⟩ : ∃ n, m.f.length = n := ⟨_, rfl⟩
  obtain ⟨ng, hng⟩ : ∃ n, m.g.length = n := ⟨_, rfl⟩
  rw [hnf, hng] at hS ⊢
  have HOK := Lib.hid hok
  have HNF := Lib.hid hnf
  have HNG := Lib.hid hng
  have HS := Lib.hid hS
  have HX0 := Lib.hid (show Whole (W.alloc (.cells #[.slice F nf cf, .slice G ng cg] 25)) W.heap.size 25 #[.slice F nf cf, .slice G ng cg] from heap_alloc_new _ _)
  have HB0 := Lib.hid (show Below W.heap.size W (W.alloc (.cells #[.slice F nf cf, .slice G ng cg] 25)) from balloc (Below.refl _ W) _)
  have HSH := Lib.hid (fun U => bshown_any U)
  have HBY := Lib.hid (fun (U : World) (hU : Below W.heap.size W U) => bytes_any m F G nf cf ng cg U hok.1 hok.2 hnf hng (hS.next hU))
  have HRC := Lib.hid (fun (U : World) (hU : Below W.heap.size W U) => refCheck_any m F G nf cf ng cg U hok.1 hok.2 hnf hng (hS.next hU))
  have HTK := Lib.hid (fun (U : World) => rtake_any l U hl)
  have HTN := Lib.hid (md_w (take_n l))
  have he4 : bytesE m = 4 ∧ bytesL m = [] := by
    have h : bytesE m = 4 := by
      unfold bytesE at he ⊢
      rw [if_pos hc] at he ⊢
      by_cases h6 : 65535 < (mdL m).length
      · rw [if_pos h6]
      · rw [if_neg h6] at he; exact absurd rfl he
    refine ⟨h, ?_⟩
    unfold bytesL
    rw [h, if_neg (by decide)]
  rw [he4.1, he4.2] at HBY
  rw [hc] at HRC
  obtain ⟨z, hz⟩ : ∃ z, (strB []).size = z := ⟨_, rfl⟩
  have z0 : z = 0 := by rw [← hz]; rfl
  subst z0
  clear he4 he
  obtain ⟨f, hff⟩ : ∃ f, takeE l = f := ⟨_, rfl⟩
  have HFE := Lib.hid hff
  rw [hff] at hf
  have q9 : (f == 0) = false := by simpa using hf
  have q8 : (f != 0) = true := by simpa using hf
  clear hok hS hnf hng hff hl hc hf
  go_enter Try.func6, Try.ntmps6
  go_wp2_with fail
  refine (HSH.out _).mono ?_
  rintro e w1 ⟨rfl, h1⟩
  have X1 := Lib.hid (show Whole w1 W.heap.size 25 #[.slice F nf cf, .slice G ng cg] from (h1.block _ (by rw [World.size_alloc]; omega)).trans HX0.out)
  have B1 := Lib.hid (bthen HB0.out h1)
  clear h1
  have b10 : w1.cell? ⟨W.heap.size, 0, none⟩ = some (.slice F nf cf) := X1.out.cell 0
  have b11 : w1.cell? ⟨W.heap.size, 1, none⟩ = some (.slice G ng cg) := X1.out.cell 1
  go_wp2_with fail
  refine (HBY.out w1 B1.out).mono ?_
  rintro e w2 ⟨rfl, h2⟩
  have X2 := Lib.hid (show Whole w2 W.heap.size 25 #[.slice F nf cf, .slice G ng cg] from (h2.block _ X1.out.lt).trans X1.out)
  have B2 := Lib.hid (bthen B1.out h2)
  clear h2 b10 b11
  have b20 : w2.cell? ⟨W.heap.size, 0, none⟩ = some (.slice F nf cf) := X2.out.cell 0
  have b21 : w2.cell? ⟨W.heap.size, 1, none⟩ = some (.slice G ng cg) := X2.out.cell 1
  go_wp2_with fail
  refine (HRC.out w2 B2.out).mono ?_
  rintro e w3 ⟨rfl, h3⟩
  have B3 := Lib.hid (bthen B2.out h3)
  clear h3 b20 b21
  go_wp2_with fail
  refine (HTK.out w3).mono ?_
  rintro e w4 ⟨A, a, A', a', rfl, hM, h4⟩
  rw [HFE.out]
  have B4 := Lib.hid (bthen B3.out h4)
  have HM := Lib.hid hM
  obtain ⟨kf, hkf⟩ : ∃ n, (takeM l).f.length = n := ⟨_, rfl⟩
  obtain ⟨kg, hkg⟩ : ∃ n, (takeM l).g.length = n := ⟨_, rfl⟩
  rw [hkf, hkg] at HM ⊢
  have HKF := Lib.hid hkf
  have HKG := Lib.hid hkg
  clear hM h4 hkf hkg
  go_wp2_with fail
  go_ret
  exact ⟨rfl, balloc B4.out _⟩
theorem bchecks_all (m : Md) (F G : Option Addr) (cf cg : Nat) (x : ByteArray) (W : World) (hok : MdOk m ∧ MdW m) (hx : x.size ≤ 140737488355328) (hS : MdAt W (.slice F m.f.length cf) (.slice G m.g.length cg) m) :
    Calls Try.prog 6 #[.agg #[.slice F m.f.length cf, .slice G m.g.length cg], .string x] W fun e w' => e = .returned (.bool true) ∧ Below W.heap.size W w' := by
  rw [← str_rt x]
  have hl : x.data.toList.length ≤ 140737488355328 := by rw [size_data]; exact hx
  by_cases hf : takeE x.data.toList = 0
  · by_cases hc : checkE m = 0
    · by_cases he : bytesE m = 0
      · exact bchecks_Bz m F G cf cg _ W hok hl hS hc he hf
      · exact bchecks_Cz m F G cf cg _ W hok hl hS hc he hf
    · exact bchecks_Az m F G cf cg _ W hok hl hS hc hf
  · by_cases hc : checkE m = 0
    · by_cases he : bytesE m = 0
      · exact bchecks_Bn m F G cf cg _ W hok hl hS hc he hf
      · exact bchecks_Cn m F G cf cg _ W hok hl hS hc he hf
    · exact bchecks_An m F G cf cg _ W hok hl hS hc hf
end Q
end Go.Proofs.Ytjldddpchiaalaa
