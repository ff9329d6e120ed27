/- Package bit: the law BitApart. -/
import Derived.Test.YtjldddpchiaalabU10
namespace Go.Proofs.Ytjldddpchiaalab
open Go.RowKit
namespace Q

theorem apart_take (m : Md) : (mdL m).drop 4 = rowL fnL m.f ++ (rowL glL m.g ++ []) := by
  unfold mdL
  simp
/-- two modules that may be written have the same bytes just if they are the same -/
theorem apart_bytes {a b : Md} (ha : MdW a) (hb : MdW b) (h1 : checkE a = 0) (h2 : checkE b = 0) (h : mdL a = mdL b) : a = b := by
  have r1 := mod_rt (check_good ha h1) []
  have r2 := mod_rt (check_good hb h2) []
  rw [← apart_take] at r1 r2
  rw [← h, r1] at r2
  exact congrArg (fun p : Md × St => p.1) r2
theorem apart_zero {m : Md} (h : bytesE m = 0) : checkE m = 0 ∧ bytesL m = mdL m := by
  refine ⟨?_, by unfold bytesL; rw [if_pos h]⟩
  unfold bytesE at h
  by_cases h0 : checkE m = 0
  · exact h0
  · rw [if_neg h0] at h; exact absurd h h0
theorem list_refl {α : Type} {p : α → α → Bool} (h : ∀ x, p x x = true) (l : List α) : listB p l l = true := by
  unfold listB
  rw [Bool.and_eq_true]
  refine ⟨by simp, ?_⟩
  rw [List.all_eq_true]
  intro x hx
  have : x.1 = x.2 := by
    obtain ⟨i, hi, rfl⟩ := List.getElem_of_mem hx
    simp
  rw [this]
  exact h _
theorem list_eq {α : Type} {p : α → α → Bool} (h : ∀ x y, p x y = true → x = y) {a b : List α} (hl : listB p a b = true) : a = b := by
  unfold listB at hl
  rw [Bool.and_eq_true, beq_iff_eq, List.all_eq_true] at hl
  refine List.ext_getElem hl.1 fun i h1 h2 => ?_
  have hi : i < (a.zip b).length := by rw [List.length_zip]; omega
  have := hl.2 _ (List.getElem_mem hi)
  rw [List.getElem_zip] at this
  exact h _ _ this
theorem sameM_iff (m k : Md) : sameM m k = true ↔ m = k := by
  constructor
  · intro h
    have ht : ∀ x y : Tm, sameT x y = true → x = y := fun x y h => by
      obtain ⟨a, b, c, d, e, f⟩ := x
      obtain ⟨a', b', c', d', e', f'⟩ := y
      unfold sameT at h
      simp only [Bool.and_eq_true, beq_iff_eq, decide_eq_true_eq] at h
      obtain ⟨⟨⟨⟨⟨rfl, rfl⟩, rfl⟩, rfl⟩, rfl⟩, rfl⟩ := h
      rfl
    have hb : ∀ x y : Bk, sameB x y = true → x = y := fun x y h => by
      obtain ⟨a, b, c⟩ := x
      obtain ⟨a', b', c'⟩ := y
      unfold sameB at h
      simp only [Bool.and_eq_true, beq_iff_eq] at h
      obtain ⟨⟨rfl, h1⟩, h2⟩ := h
      have e1 : b = b' := list_eq (fun x y => sameI_eq) h1
      have e2 := ht _ _ h2
      subst e1 e2
      rfl
    have hf : ∀ x y : Fn, sameF x y = true → x = y := fun x y h => by
      obtain ⟨a, b, c, d⟩ := x
      obtain ⟨a', b', c', d'⟩ := y
      unfold sameF at h
      simp only [Bool.and_eq_true, beq_iff_eq, jba_beq] at h
      obtain ⟨⟨⟨rfl, rfl⟩, rfl⟩, h2⟩ := h
      have e2 : d = d' := list_eq hb h2
      subst e2
      rfl
    have hg : ∀ x y : Gl, sameG x y = true → x = y := fun x y h => by
      obtain ⟨a, b, c, d⟩ := x
      obtain ⟨a', b', c', d'⟩ := y
      unfold sameG at h
      simp only [Bool.and_eq_true, beq_iff_eq, jba_beq] at h
      obtain ⟨⟨⟨rfl, rfl⟩, rfl⟩, rfl⟩ := h
      rfl
    obtain ⟨f, g⟩ := m
    obtain ⟨f', g'⟩ := k
    unfold sameM at h
    rw [Bool.and_eq_true] at h
    have e1 : f = f' := list_eq hf h.1
    have e2 : g = g' := list_eq hg h.2
    subst e1 e2
    rfl
  · rintro rfl
    have hi : ∀ x : In, sameI x x = true := fun x => by simp [sameI, jba_refl]
    have ht : ∀ x : Tm, sameT x x = true := fun x => by simp [sameT]
    have hb : ∀ x : Bk, sameB x x = true := fun x => by simp [sameB, list_refl hi, ht]
    have hf : ∀ x : Fn, sameF x x = true := fun x => by simp [sameF, list_refl hb, jba_refl]
    have hg : ∀ x : Gl, sameG x x = true := fun x => by simp [sameG, jba_refl]
    unfold sameM
    rw [list_refl hf, list_refl hg]
    rfl
theorem strB_inj {a b : List UInt8} (h : strB a = strB b) : a = b := by
  have := congrArg (fun x : ByteArray => x.data.toList) h
  simpa [strB] using this
set_option maxRecDepth 100000 in
set_option maxHeartbeats 4000000 in
theorem bapart_all (a b : Md) (F G F' G' : Option Addr) (cf cg cf' cg' : Nat) (W : World) (ha : MdOk a ∧ MdW a) (hb : MdOk b ∧ MdW b) (hS : MdAt W (.slice F a.f.length cf) (.slice G a.g.length cg) a) (hS' : MdAt W (.slice F' b.f.length cf') (.slice G' b.g.length cg') b) :
    Calls Try.prog 3 #[.agg #[.slice F a.f.length cf, .slice G a.g.length cg], .agg #[.slice F' b.f.length cf', .slice G' b.g.length cg']] W fun e w' => e = .returned (.bool true) ∧ Below W.heap.size W w' := by
  have HA := Lib.hid (fun (U : World) (hU : Below W.heap.size W U) => bytes_any a F G a.f.length cf a.g.length cg U ha.1 ha.2 rfl rfl (hS.next hU))
  have HB := Lib.hid (fun (U : World) (hU : Below W.heap.size W U) => bytes_any b F' G' b.f.length cf' b.g.length cg' U hb.1 hb.2 rfl rfl (hS'.next hU))
  have HS := Lib.hid (fun (U : World) (hU : Below W.heap.size W U) => refSame_any a b F G F' G' a.f.length cf a.g.length cg b.f.length cf' b.g.length cg' U ha.1 hb.1 rfl rfl rfl rfl (hS.next hU) (hS'.next hU))
  have HSH := Lib.hid (fun U => bshown_any U)
  have HQ := Lib.hid (show bytesE a = 0 → bytesE b = 0 → (strB (bytesL a) = strB (bytesL b) ↔ sameM a b = true) from fun h1 h2 => by
    obtain ⟨c1, l1⟩ := apart_zero h1
    obtain ⟨c2, l2⟩ := apart_zero h2
    rw [l1, l2, sameM_iff]
    exact ⟨fun h => apart_bytes ha.2 hb.2 c1 c2 (strB_inj h), fun h => by rw [h]⟩)
  obtain ⟨n1, hn1⟩ : ∃ n, a.f.length = n := ⟨_, rfl⟩
  obtain ⟨n2, hn2⟩ : ∃ n, a.g.length = n := ⟨_, rfl⟩
  obtain ⟨n3, hn3⟩ : ∃ n, b.f.length = n := ⟨_, rfl⟩
  obtain ⟨n4, hn4⟩ : ∃ n, b.g.length = n := ⟨_, rfl⟩
  rw [hn1, hn2] at HA
  rw [hn3, hn4] at HB
  rw [hn1, hn2, hn3, hn4] at HS
  rw [hn1, hn2, hn3, hn4]
  obtain ⟨o1, ho1⟩ : ∃ o, Obj.cells #[.slice F n1 cf, .slice G n2 cg] 25 (0, 0) = o := ⟨_, rfl⟩
  obtain ⟨o2, ho2⟩ : ∃ o, Obj.cells #[.slice F' n3 cf', .slice G' n4 cg'] 25 (0, 0) = o := ⟨_, rfl⟩
  have HX0 := Lib.hid (show Whole ((W.alloc o1).alloc o2) W.heap.size 25 #[.slice F n1 cf, .slice G n2 cg] from by
    unfold Whole
    rw [Lib.alloc_old _ o2 _ (by rw [World.size_alloc]; omega), heap_alloc_new, ho1])
  have HY0 := Lib.hid (show Whole ((W.alloc o1).alloc o2) (W.heap.size + 1) 25 #[.slice F' n3 cf', .slice G' n4 cg'] from by
    have h := heap_alloc_new (W.alloc o1) o2
    rw [World.size_alloc] at h
    unfold Whole
    rw [h, ho2])
  have HB0 := Lib.hid (show Below W.heap.size W ((W.alloc o1).alloc o2) from balloc (balloc (Below.refl _ W) _) _)
  obtain ⟨x, hx⟩ : ∃ x, strB (bytesL a) = x := ⟨_, rfl⟩
  obtain ⟨y, hy⟩ : ∃ x, strB (bytesL b) = x := ⟨_, rfl⟩
  obtain ⟨e, he⟩ : ∃ x, bytesE a = x := ⟨_, rfl⟩
  obtain ⟨f, hf⟩ : ∃ x, bytesE b = x := ⟨_, rfl⟩
  obtain ⟨s, hs⟩ : ∃ x, sameM a b = x := ⟨_, rfl⟩
  rw [hx, he] at HA
  rw [hy, hf] at HB
  rw [hs] at HS
  rw [hx, hy, he, hf, hs] at HQ
  have key : (e = 0 ∧ f = 0 ∧ (x == y) = s ∧ (x.toList == y.toList) = s) ∨ (e ≠ 0 ∨ f ≠ 0) := by
    by_cases h1 : e = 0
    · by_cases h2 : f = 0
      · refine .inl ⟨h1, h2, ?_⟩
        have q := HQ.out h1 h2
        cases s with
        | true => exact str_same (q.2 rfl)
        | false => exact str_other (fun h => by have := q.1 h; cases this)
      · exact .inr (.inr h2)
    · exact .inr (.inl h1)
  subst ho1 ho2
  clear HQ hx hy he hf hs ha hb hS hS' hn1 hn2 hn3 hn4
  rcases key with ⟨rfl, rfl, k1, k2⟩ | key
  · have k3 : (s == s) = true := by simp
    go_enter Try.func3, Try.ntmps3
    go_wp2_with fail
    refine (HSH.out _).mono ?_
    rintro r w1 ⟨rfl, h1⟩
    have X1 := Lib.hid (show Whole w1 W.heap.size 25 #[.slice F n1 cf, .slice G n2 cg] from (h1.block _ (by rw [World.size_alloc, World.size_alloc]; omega)).trans HX0.out)
    have Y1 := Lib.hid (show Whole w1 (W.heap.size + 1) 25 #[.slice F' n3 cf', .slice G' n4 cg'] from (h1.block _ (by rw [World.size_alloc, World.size_alloc]; omega)).trans HY0.out)
    have B1 := Lib.hid (bthen HB0.out h1)
    clear h1
    have b0 : w1.cell? ⟨W.heap.size, 0, none⟩ = some (.slice F n1 cf) := X1.out.cell 0
    have b1 : w1.cell? ⟨W.heap.size, 1, none⟩ = some (.slice G n2 cg) := X1.out.cell 1
    go_wp2_with fail
    refine (HA.out w1 B1.out).mono ?_
    rintro r w2 ⟨rfl, h2⟩
    have X2 := Lib.hid (show Whole w2 W.heap.size 25 #[.slice F n1 cf, .slice G n2 cg] from (h2.block _ X1.out.lt).trans X1.out)
    have Y2 := Lib.hid (show Whole w2 (W.heap.size + 1) 25 #[.slice F' n3 cf', .slice G' n4 cg'] from (h2.block _ Y1.out.lt).trans Y1.out)
    have B2 := Lib.hid (bthen B1.out h2)
    clear h2 b0 b1
    have b0 : w2.cell? ⟨W.heap.size + 1, 0, none⟩ = some (.slice F' n3 cf') := Y2.out.cell 0
    have b1 : w2.cell? ⟨W.heap.size + 1, 1, none⟩ = some (.slice G' n4 cg') := Y2.out.cell 1
    go_wp2_with fail
    refine (HB.out w2 B2.out).mono ?_
    rintro r w3 ⟨rfl, h3⟩
    have X3 := Lib.hid (show Whole w3 W.heap.size 25 #[.slice F n1 cf, .slice G n2 cg] from (h3.block _ X2.out.lt).trans X2.out)
    have Y3 := Lib.hid (show Whole w3 (W.heap.size + 1) 25 #[.slice F' n3 cf', .slice G' n4 cg'] from (h3.block _ Y2.out.lt).trans Y2.out)
    have B3 := Lib.hid (bthen B2.out h3)
    clear h3 b0 b1
    have b0 : w3.cell? ⟨W.heap.size + 1, 0, none⟩ = some (.slice F' n3 cf') := Y3.out.cell 0
    have b1 : w3.cell? ⟨W.heap.size + 1, 1, none⟩ = some (.slice G' n4 cg') := Y3.out.cell 1
    have b2 : w3.cell? ⟨W.heap.size, 0, none⟩ = some (.slice F n1 cf) := X3.out.cell 0
    have b3 : w3.cell? ⟨W.heap.size, 1, none⟩ = some (.slice G n2 cg) := X3.out.cell 1
    go_wp2_with fail
    refine (HS.out w3 B3.out).mono ?_
    rintro r w4 ⟨rfl, h4⟩
    have B4 := Lib.hid (bthen B3.out h4)
    clear h4 b0 b1 b2 b3
    go_wp2_with fail
    go_ret
    exact ⟨by simp, B4.out⟩
  · have key2 : (e != 0) = true ∨ ((e != 0) = false ∧ (e == 0) = true ∧ (f != 0) = true) := by
      by_cases h1 : e = 0
      · refine .inr ⟨by simp [h1], by simp [h1], ?_⟩
        rcases key with h | h
        · exact absurd h1 h
        · simpa using h
      · exact .inl (by simpa using h1)
    clear key
    rcases key2 with q1 | ⟨q1, q2, q3⟩
    all_goals
      go_enter Try.func3, Try.ntmps3
      go_wp2_with fail
      refine (HSH.out _).mono ?_
      rintro r w1 ⟨rfl, h1⟩
      have X1 := Lib.hid (show Whole w1 W.heap.size 25 #[.slice F n1 cf, .slice G n2 cg] from (h1.block _ (by rw [World.size_alloc, World.size_alloc]; omega)).trans HX0.out)
      have Y1 := Lib.hid (show Whole w1 (W.heap.size + 1) 25 #[.slice F' n3 cf', .slice G' n4 cg'] from (h1.block _ (by rw [World.size_alloc, World.size_alloc]; omega)).trans HY0.out)
      have B1 := Lib.hid (bthen HB0.out h1)
      clear h1
      have b0 : w1.cell? ⟨W.heap.size, 0, none⟩ = some (.slice F n1 cf) := X1.out.cell 0
      have b1 : w1.cell? ⟨W.heap.size, 1, none⟩ = some (.slice G n2 cg) := X1.out.cell 1
      go_wp2_with fail
      refine (HA.out w1 B1.out).mono ?_
      rintro r w2 ⟨rfl, h2⟩
      have X2 := Lib.hid (show Whole w2 W.heap.size 25 #[.slice F n1 cf, .slice G n2 cg] from (h2.block _ X1.out.lt).trans X1.out)
      have Y2 := Lib.hid (show Whole w2 (W.heap.size + 1) 25 #[.slice F' n3 cf', .slice G' n4 cg'] from (h2.block _ Y1.out.lt).trans Y1.out)
      have B2 := Lib.hid (bthen B1.out h2)
      clear h2 b0 b1
      have b0 : w2.cell? ⟨W.heap.size + 1, 0, none⟩ = some (.slice F' n3 cf') := Y2.out.cell 0
      have b1 : w2.cell? ⟨W.heap.size + 1, 1, none⟩ = some (.slice G' n4 cg') := Y2.out.cell 1
      go_wp2_with fail
      refine (HB.out w2 B2.out).mono ?_
      rintro r w3 ⟨rfl, h3⟩
      have X3 := Lib.hid (show Whole w3 W.heap.size 25 #[.slice F n1 cf, .slice G n2 cg] from (h3.block _ X2.out.lt).trans X2.out)
      have Y3 := Lib.hid (show Whole w3 (W.heap.size + 1) 25 #[.slice F' n3 cf', .slice G' n4 cg'] from (h3.block _ Y2.out.lt).trans Y2.out)
      have B3 := Lib.hid (bthen B2.out h3)
      clear h3 b0 b1
      have b0 : w3.cell? ⟨W.heap.size + 1, 0, none⟩ = some (.slice F' n3 cf') := Y3.out.cell 0
      have b1 : w3.cell? ⟨W.heap.size + 1, 1, none⟩ = some (.slice G' n4 cg') := Y3.out.cell 1
      have b2 : w3.cell? ⟨W.heap.size, 0, none⟩ = some (.slice F n1 cf) := X3.out.cell 0
      have b3 : w3.cell? ⟨W.heap.size, 1, none⟩ = some (.slice G n2 cg) := X3.out.cell 1
      go_wp2_with fail
      refine (HS.out w3 B3.out).mono ?_
      rintro r w4 ⟨rfl, h4⟩
      have B4 := Lib.hid (bthen B3.out h4)
      clear h4 b0 b1 b2 b3
      go_wp2_with fail
      go_ret
      exact ⟨rfl, B4.out⟩
end Q
end Go.Proofs.Ytjldddpchiaalab
