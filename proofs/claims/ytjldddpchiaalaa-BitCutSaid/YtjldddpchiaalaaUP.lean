/- Package bit: the law BitCut. -/
import Derived.Test.YtjldddpchiaalaaUN
namespace Go.Proofs.Ytjldddpchiaalaa
open Go.RowKit
namespace Q

set_option maxRecDepth 100000 in
set_option maxHeartbeats 4000000 in
theorem bcut_e (m : Md) (F G : Option Addr) (cf cg : Nat) (k : Int) (W : World) (hok : MdOk m ∧ MdW m) (hS : MdAt W (.slice F m.f.length cf) (.slice G m.g.length cg) m) (he : bytesE m ≠ 0) :
    Calls Try.prog 4 #[.agg #[.slice F m.f.length cf, .slice G m.g.length cg], .int .i64 k] W fun e w' => e = .returned (.bool true) ∧ Below W.heap.size W w' := by
  obtain ⟨nf, hnf⟩ : ∃ n, m.f.length = n := ⟨_, rfl⟩
  obtain ⟨ng, hng⟩ : ∃ n, m.g.length = n := ⟨_, rfl⟩
  rw [hnf, hng] at hS ⊢
  have HOK := Lib.hid hok
  have HNF := Lib.hid hnf
  have HNG := Lib.hid hng
  have HS := Lib.hid hS
  have HX0 := Lib.hid (show Whole (W.alloc (.cells #[.slice F nf cf, .slice G ng cg] 25)) W.heap.size 25 #[.slice F nf cf, .slice G ng cg] from heap_alloc_new _ _)
  have HB0 := Lib.hid (show Below W.heap.size W (W.alloc (.cells #[.slice F nf cf, .slice G ng cg] 25)) from balloc (Below.refl _ W) _)
  have HSH := Lib.hid (fun U => bshown_any U)
  have HBY := Lib.hid (fun (U : World) (hU : Below W.heap.size W U) => bytes_any m F G nf cf ng cg U hok.1 hok.2 hnf hng (hS.next hU))
  obtain ⟨e, hee⟩ : ∃ e, bytesE m = e := ⟨_, rfl⟩
  obtain ⟨t, htt⟩ : ∃ t, strB (bytesL m) = t := ⟨_, rfl⟩
  rw [hee, htt] at HBY
  rw [hee] at he
  have q1 : (e == 0) = false := by simpa using he
  have q2 : (e != 0) = true := by simpa using he
  clear hok hS hnf hng he hee htt
  go_enter Try.func4, Try.ntmps4
  go_wp2_with fail
  refine (HSH.out _).mono ?_
  rintro e w1 ⟨rfl, h1⟩
  have X1 := Lib.hid (show Whole w1 W.heap.size 25 #[.slice F nf cf, .slice G ng cg] from (h1.block _ (by rw [World.size_alloc]; omega)).trans HX0.out)
  have B1 := Lib.hid (bthen HB0.out h1)
  clear h1
  have b10 : w1.cell? ⟨W.heap.size, 0, none⟩ = some (.slice F nf cf) := X1.out.cell 0
  have b11 : w1.cell? ⟨W.heap.size, 1, none⟩ = some (.slice G ng cg) := X1.out.cell 1
  go_wp2_with fail
  refine (HBY.out w1 B1.out).mono ?_
  rintro e w2 ⟨rfl, h2⟩
  have X2 := Lib.hid (show Whole w2 W.heap.size 25 #[.slice F nf cf, .slice G ng cg] from (h2.block _ X1.out.lt).trans X1.out)
  have B2 := Lib.hid (bthen B1.out h2)
  clear h2 b10 b11
  have b20 : w2.cell? ⟨W.heap.size, 0, none⟩ = some (.slice F nf cf) := X2.out.cell 0
  have b21 : w2.cell? ⟨W.heap.size, 1, none⟩ = some (.slice G ng cg) := X2.out.cell 1
  clear b20 b21
  go_wp2_with fail
  go_ret
  exact ⟨rfl, B2.out⟩
set_option maxRecDepth 100000 in
set_option maxHeartbeats 4000000 in
theorem bcut_n (m : Md) (F G : Option Addr) (cf cg : Nat) (k : Int) (W : World) (hok : MdOk m ∧ MdW m) (hS : MdAt W (.slice F m.f.length cf) (.slice G m.g.length cg) m) (he : bytesE m = 0) (hk : k < 0) :
    Calls Try.prog 4 #[.agg #[.slice F m.f.length cf, .slice G m.g.length cg], .int .i64 k] W fun e w' => e = .returned (.bool true) ∧ Below W.heap.size W w' := by
  obtain ⟨nf, hnf⟩ : ∃ n, m.f.length = n := ⟨_, rfl⟩
  obtain ⟨ng, hng⟩ : ∃ n, m.g.length = n := ⟨_, rfl⟩
  rw [hnf, hng] at hS ⊢
  have HOK := Lib.hid hok
  have HNF := Lib.hid hnf
  have HNG := Lib.hid hng
  have HS := Lib.hid hS
  have HX0 := Lib.hid (show Whole (W.alloc (.cells #[.slice F nf cf, .slice G ng cg] 25)) W.heap.size 25 #[.slice F nf cf, .slice G ng cg] from heap_alloc_new _ _)
  have HB0 := Lib.hid (show Below W.heap.size W (W.alloc (.cells #[.slice F nf cf, .slice G ng cg] 25)) from balloc (Below.refl _ W) _)
  have HSH := Lib.hid (fun U => bshown_any U)
  have HBY := Lib.hid (fun (U : World) (hU : Below W.heap.size W U) => bytes_any m F G nf cf ng cg U hok.1 hok.2 hnf hng (hS.next hU))
  have hb := bytes_zero he
  rw [he, hb.2.2] at HBY
  obtain ⟨L, hL⟩ : ∃ L, mdL m = L := ⟨_, rfl⟩
  have HL := Lib.hid hL
  have HCK := Lib.hid (And.intro hb.1 hok.2)
  have hz6 : L.length ≤ 65535 := by rw [← hL]; exact hb.2.1
  rw [hL] at HBY
  obtain ⟨z, hz⟩ : ∃ z, (strB L).size = z := ⟨_, rfl⟩
  have hzl : L.length = z := by rw [← hz, strB_size]
  rw [hzl] at hz6
  have z1 : (z : Int) ≤ 65535 := by omega
  have d1 : decide (k < 0) = true := decide_eq_true hk
  clear hok hS hnf hng he hb hL hk hzl
  go_enter Try.func4, Try.ntmps4
  go_wp2_with fail
  refine (HSH.out _).mono ?_
  rintro e w1 ⟨rfl, h1⟩
  have X1 := Lib.hid (show Whole w1 W.heap.size 25 #[.slice F nf cf, .slice G ng cg] from (h1.block _ (by rw [World.size_alloc]; omega)).trans HX0.out)
  have B1 := Lib.hid (bthen HB0.out h1)
  clear h1
  have b10 : w1.cell? ⟨W.heap.size, 0, none⟩ = some (.slice F nf cf) := X1.out.cell 0
  have b11 : w1.cell? ⟨W.heap.size, 1, none⟩ = some (.slice G ng cg) := X1.out.cell 1
  go_wp2_with fail
  refine (HBY.out w1 B1.out).mono ?_
  rintro e w2 ⟨rfl, h2⟩
  have X2 := Lib.hid (show Whole w2 W.heap.size 25 #[.slice F nf cf, .slice G ng cg] from (h2.block _ X1.out.lt).trans X1.out)
  have B2 := Lib.hid (bthen B1.out h2)
  clear h2 b10 b11
  have b20 : w2.cell? ⟨W.heap.size, 0, none⟩ = some (.slice F nf cf) := X2.out.cell 0
  have b21 : w2.cell? ⟨W.heap.size, 1, none⟩ = some (.slice G ng cg) := X2.out.cell 1
  clear b20 b21
  go_wp2_with fail
  go_ret
  exact ⟨rfl, B2.out⟩
set_option maxRecDepth 100000 in
set_option maxHeartbeats 4000000 in
theorem bcut_g (m : Md) (F G : Option Addr) (cf cg : Nat) (k : Int) (W : World) (hok : MdOk m ∧ MdW m) (hS : MdAt W (.slice F m.f.length cf) (.slice G m.g.length cg) m) (he : bytesE m = 0) (hk : 0 ≤ k) (hg : ((mdL m).length : Int) ≤ k) :
    Calls Try.prog 4 #[.agg #[.slice F m.f.length cf, .slice G m.g.length cg], .int .i64 k] W fun e w' => e = .returned (.bool true) ∧ Below W.heap.size W w' := by
  obtain ⟨nf, hnf⟩ : ∃ n, m.f.length = n := ⟨_, rfl⟩
  obtain ⟨ng, hng⟩ : ∃ n, m.g.length = n := ⟨_, rfl⟩
  rw [hnf, hng] at hS ⊢
  have HOK := Lib.hid hok
  have HNF := Lib.hid hnf
  have HNG := Lib.hid hng
  have HS := Lib.hid hS
  have HX0 := Lib.hid (show Whole (W.alloc (.cells #[.slice F nf cf, .slice G ng cg] 25)) W.heap.size 25 #[.slice F nf cf, .slice G ng cg] from heap_alloc_new _ _)
  have HB0 := Lib.hid (show Below W.heap.size W (W.alloc (.cells #[.slice F nf cf, .slice G ng cg] 25)) from balloc (Below.refl _ W) _)
  have HSH := Lib.hid (fun U => bshown_any U)
  have HBY := Lib.hid (fun (U : World) (hU : Below W.heap.size W U) => bytes_any m F G nf cf ng cg U hok.1 hok.2 hnf hng (hS.next hU))
  have hb := bytes_zero he
  rw [he, hb.2.2] at HBY
  obtain ⟨L, hL⟩ : ∃ L, mdL m = L := ⟨_, rfl⟩
  have HL := Lib.hid hL
  have HCK := Lib.hid (And.intro hb.1 hok.2)
  have hz6 : L.length ≤ 65535 := by rw [← hL]; exact hb.2.1
  rw [hL] at HBY hg
  obtain ⟨z, hz⟩ : ∃ z, (strB L).size = z := ⟨_, rfl⟩
  have hzl : L.length = z := by rw [← hz, strB_size]
  rw [hzl] at hz6 hg
  have z1 : (z : Int) ≤ 65535 := by omega
  have d1 : decide (k < 0) = false := decide_eq_false (by omega)
  have d2 : decide ((z : Int) ≤ k) = true := decide_eq_true hg
  clear hok hS hnf hng he hb hL hzl
  go_enter Try.func4, Try.ntmps4
  go_wp2_with fail
  refine (HSH.out _).mono ?_
  rintro e w1 ⟨rfl, h1⟩
  have X1 := Lib.hid (show Whole w1 W.heap.size 25 #[.slice F nf cf, .slice G ng cg] from (h1.block _ (by rw [World.size_alloc]; omega)).trans HX0.out)
  have B1 := Lib.hid (bthen HB0.out h1)
  clear h1
  have b10 : w1.cell? ⟨W.heap.size, 0, none⟩ = some (.slice F nf cf) := X1.out.cell 0
  have b11 : w1.cell? ⟨W.heap.size, 1, none⟩ = some (.slice G ng cg) := X1.out.cell 1
  go_wp2_with fail
  refine (HBY.out w1 B1.out).mono ?_
  rintro e w2 ⟨rfl, h2⟩
  have X2 := Lib.hid (show Whole w2 W.heap.size 25 #[.slice F nf cf, .slice G ng cg] from (h2.block _ X1.out.lt).trans X1.out)
  have B2 := Lib.hid (bthen B1.out h2)
  clear h2 b10 b11
  have b20 : w2.cell? ⟨W.heap.size, 0, none⟩ = some (.slice F nf cf) := X2.out.cell 0
  have b21 : w2.cell? ⟨W.heap.size, 1, none⟩ = some (.slice G ng cg) := X2.out.cell 1
  clear b20 b21
  go_wp2_with fail
  go_ret
  exact ⟨rfl, B2.out⟩
set_option maxRecDepth 100000 in
set_option maxHeartbeats 4000000 in
theorem bcut_i (m : Md) (F G : Option Addr) (cf cg : Nat) (k : Int) (W : World) (hok : MdOk m ∧ MdW m) (hS : MdAt W (.slice F m.f.length cf) (.slice G m.g.length cg) m) (he : bytesE m = 0) (hk : 0 ≤ k) (hg : k < ((mdL m).length : Int)) :
    Calls Try.prog 4 #[.agg #[.slice F m.f.length cf, .slice G m.g.length cg], .int .i64 k] W fun e w' => e = .returned (.bool true) ∧ Below W.heap.size W w' := by
  obtain ⟨nf, hnf⟩ : ∃ n, m.f.length = n := ⟨_, rfl⟩
  obtain ⟨ng, hng⟩ : ∃ n, m.g.length = n := ⟨_, rfl⟩
  rw [hnf, hng] at hS ⊢
  have HOK := Lib.hid hok
  have HNF := Lib.hid hnf
  have HNG := Lib.hid hng
  have HS := Lib.hid hS
  have HX0 := Lib.hid (show Whole (W.alloc (.cells #[.slice F nf cf, .slice G ng cg] 25)) W.heap.size 25 #[.slice F nf cf, .slice G ng cg] from heap_alloc_new _ _)
  have HB0 := Lib.hid (show Below W.heap.size W (W.alloc (.cells #[.slice F nf cf, .slice G ng cg] 25)) from balloc (Below.refl _ W) _)
  have HSH := Lib.hid (fun U => bshown_any U)
  have HBY := Lib.hid (fun (U : World) (hU : Below W.heap.size W U) => bytes_any m F G nf cf ng cg U hok.1 hok.2 hnf hng (hS.next hU))
  have hb := bytes_zero he
  rw [he, hb.2.2] at HBY
  obtain ⟨L, hL⟩ : ∃ L, mdL m = L := ⟨_, rfl⟩
  have HL := Lib.hid hL
  have HCK := Lib.hid (And.intro hb.1 hok.2)
  have hz6 : L.length ≤ 65535 := by rw [← hL]; exact hb.2.1
  rw [hL] at HBY hg
  obtain ⟨z, hz⟩ : ∃ z, (strB L).size = z := ⟨_, rfl⟩
  have hzl : L.length = z := by rw [← hz, strB_size]
  rw [hzl] at hz6 hg
  have z1 : (z : Int) ≤ 65535 := by omega
  obtain ⟨j, rfl⟩ : ∃ j : Nat, k = j := ⟨k.toNat, by omega⟩
  have d1 : decide ((j : Int) < 0) = false := decide_eq_false (by omega)
  have d2 : decide (z ≤ j) = false := decide_eq_false (by omega)
  have d3 : decide ((z : Int) ≤ (j : Int)) = false := decide_eq_false (by omega)
  have i2 : (j : Int) ≤ (z : Int) := by omega
  have HT1 := Lib.hid (fun (U : World) => rtake_any (L.take j) U (by rw [List.length_take]; omega))
  have HT2 := Lib.hid (fun (U : World) => rtake_any (L ++ [48]) U (by rw [List.length_append, List.length_cons, List.length_nil]; omega))
  have hf : takeE (L.take j) ≠ 0 := by
    have := take_cut hok.2 hb.1 (k := j) (by rw [hL]; omega)
    rw [hL] at this
    exact this
  have hg3 : takeE (L ++ [48]) = 3 := by
    have := take_more hok.2 hb.1 48
    rw [hL] at this
    exact this
  obtain ⟨f, hff⟩ : ∃ f, takeE (L.take j) = f := ⟨_, rfl⟩
  have HFF := Lib.hid hff
  have HG3 := Lib.hid hg3
  rw [hff] at hf
  have q8 : (f == 0) = false := by simpa using hf
  have q9 : (f != 0) = true := by simpa using hf
  have e1 : (strB L).extract 0 j = strB (L.take j) := strB_take L j
  have e2 : strB L ++ ⟨#[48]⟩ = strB (L ++ [48]) := by
    apply ByteArray.ext
    apply Array.toList_inj.1
    rw [ByteArray.data_append, Array.toList_append]
    simp [strB]
  have hi : ¬ ((9223372036854775807 : Int) < (z : Int) + 1) := by omega
  have hi2 : ¬ (9223372036854775807 < z + 1) := by omega
  have hs1 : (⟨#[48]⟩ : ByteArray).size = 1 := rfl
  have HE1 := Lib.hid e1
  have HE2 := Lib.hid e2
  obtain ⟨X1, hX1⟩ : ∃ X, strB (L.take j) = X := ⟨_, rfl⟩
  obtain ⟨X2, hX2⟩ : ∃ X, strB (L ++ [48]) = X := ⟨_, rfl⟩
  rw [hX1] at HT1 e1
  rw [hX2] at HT2 e2
  obtain ⟨t, ht⟩ : ∃ t, strB L = t := ⟨_, rfl⟩
  rw [ht] at HBY e1 e2 hz
  clear hok hS hnf hng he hb hL hf hff hg3 hzl hg hk HE1 HE2 hX1 hX2 ht hz6
  go_enter Try.func4, Try.ntmps4
  go_wp2_with fail
  refine (HSH.out _).mono ?_
  rintro e w1 ⟨rfl, h1⟩
  have X1 := Lib.hid (show Whole w1 W.heap.size 25 #[.slice F nf cf, .slice G ng cg] from (h1.block _ (by rw [World.size_alloc]; omega)).trans HX0.out)
  have B1 := Lib.hid (bthen HB0.out h1)
  clear h1
  have b10 : w1.cell? ⟨W.heap.size, 0, none⟩ = some (.slice F nf cf) := X1.out.cell 0
  have b11 : w1.cell? ⟨W.heap.size, 1, none⟩ = some (.slice G ng cg) := X1.out.cell 1
  go_wp2_with fail
  refine (HBY.out w1 B1.out).mono ?_
  rintro e w2 ⟨rfl, h2⟩
  have X2 := Lib.hid (show Whole w2 W.heap.size 25 #[.slice F nf cf, .slice G ng cg] from (h2.block _ X1.out.lt).trans X1.out)
  have B2 := Lib.hid (bthen B1.out h2)
  clear h2 b10 b11
  have b20 : w2.cell? ⟨W.heap.size, 0, none⟩ = some (.slice F nf cf) := X2.out.cell 0
  have b21 : w2.cell? ⟨W.heap.size, 1, none⟩ = some (.slice G ng cg) := X2.out.cell 1
  clear b20 b21
  go_wp2_with fail
  refine (HT1.out w2).mono ?_
  rintro e w3 ⟨A, a, A', a', rfl, hM, h3⟩
  rw [HFF.out]
  have B3 := Lib.hid (bthen B2.out h3)
  clear hM h3
  obtain ⟨om, hom⟩ : ∃ o, Obj.cells #[.slice A (takeM (L.take j)).f.length a, .slice A' (takeM (L.take j)).g.length a'] 25 (0, 0) = o := ⟨_, rfl⟩
  have B4 := Lib.hid (balloc B3.out om)
  subst hom
  go_wp2_with fail
  refine (HT2.out _).mono ?_
  rintro e w5 ⟨A5, a5, A6, a6, rfl, hM, h5⟩
  rw [HG3.out]
  have B5 := Lib.hid (bthen B4.out h5)
  clear hM h5
  go_wp2_with fail
  go_ret
  exact ⟨rfl, balloc B5.out _⟩
theorem bcut_all (m : Md) (F G : Option Addr) (cf cg : Nat) (k : Int) (W : World) (hok : MdOk m ∧ MdW m) (hS : MdAt W (.slice F m.f.length cf) (.slice G m.g.length cg) m) :
    Calls Try.prog 4 #[.agg #[.slice F m.f.length cf, .slice G m.g.length cg], .int .i64 k] W fun e w' => e = .returned (.bool true) ∧ Below W.heap.size W w' := by
  by_cases he : bytesE m = 0
  · by_cases hk : k < 0
    · exact bcut_n m F G cf cg k W hok hS he hk
    · by_cases hg : ((mdL m).length : Int) ≤ k
      · exact bcut_g m F G cf cg k W hok hS he (by omega) hg
      · exact bcut_i m F G cf cg k W hok hS he (by omega) (by omega)
  · exact bcut_e m F G cf cg k W hok hS he
end Q
end Go.Proofs.Ytjldddpchiaalaa
