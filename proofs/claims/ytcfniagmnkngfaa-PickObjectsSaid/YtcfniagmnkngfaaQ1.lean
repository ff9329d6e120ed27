/- Package pick: the names that a module defines, and those that it wants. -/
import Derived.Test.YtcfniagmnkngfaaK13
import Derived.Test.YtcfniagmnkngfaaBL
import Derived.Maps.AppendAt
import Derived.Laws.AppendOwnNone
import Derived.BigQuiet
import Derived.Deep.RegionHeld3
namespace Go.Proofs.Ytcfniagmnkngfaa
open Go.RowKit

/-- a closure that chooses by whether a thing is here and how it binds -/
def Chooses (cf : FuncId) (p : Bool → Int → Bool) : Prop := ∀ (h : Bool) (b : Int) (W : World), Calls Try.prog cf #[.bool h, .int .i64 b] W fun e w' => e = .returned (.bool (p h b)) ∧ W = w'
def defP (h : Bool) (b : Int) : Bool := h && !(b == 1)
def wantP (h : Bool) (b : Int) : Bool := !h && b == 2
theorem def_chooses : Chooses 61 defP := by
  intro h b W
  unfold defP
  cases h with
  | false =>
    go_enter Try.func61, Try.ntmps61
    go_wp2_with fail
    go_ret
    exact ⟨rfl, rfl⟩
  | true =>
    go_enter Try.func61, Try.ntmps61
    go_wp2_with fail
    go_ret
    exact ⟨by simp [bne], rfl⟩
theorem want_chooses : Chooses 62 wantP := by
  intro h b W
  unfold wantP
  cases h with
  | true =>
    go_enter Try.func62, Try.ntmps62
    go_wp2_with fail
    go_ret
    exact ⟨rfl, rfl⟩
  | false =>
    go_enter Try.func62, Try.ntmps62
    go_wp2_with fail
    go_ret
    exact ⟨by simp, rfl⟩
def selF (p : Bool → Int → Bool) (l : List Fn) : List ByteArray := (l.filter fun x => p (decide (0 < x.l.length)) x.b).map (·.s)
def selG (p : Bool → Int → Bool) (l : List Gl) : List ByteArray := (l.filter fun x => p x.h x.b).map (·.s)
def NewOwn (L : List ByteArray) (w : World) (e : Ending) (w' : World) : Prop := ∃ v', e = .returned v' ∧ OwnsN w' w.heap.size v' L ∧ Below w.heap.size w w'
theorem grown_keep {W W' : World} (h : Below W.heap.size W W') : W.grownBy W' none := ⟨h.os, h.tape, h.output, h.size, fun i hi _ => h.block i hi⟩
theorem ownsN_below {W W' : World} {base : Nat} {v : Value} {l : List ByteArray} (h : OwnsN W base v l) (hb : Below W.heap.size W W') : OwnsN W' base v l :=
  ownsN_kept h (grown_keep hb) (by by_cases e : v.ownBlock = none; exact .inl e; exact .inr e)
theorem str_inf : ∃ i : TypeInfo, Try.prog.info? 9 = some i ∧ i.zero = some (.string ⟨#[]⟩) ∧ i.size = 1 ∧ i.bytes = 16 := by
  obtain ⟨i, h1, h2, h3, h4⟩ := info_parts str_info
  exact ⟨i, h1, h2, h3, h4⟩
set_option maxRecDepth 100000 in
set_option maxHeartbeats 4000000 in
theorem told1D_any (s : ByteArray) (b q : Int) (A : Option Addr) (n c : Nat) (B : Nat) (w : World) (hB : w.cell? ⟨B, 0, none⟩ = some (.func (.func 61) #[] #[])) :
    Calls Try.prog 98 #[.agg #[.string s, .int .i64 b, .int .i64 q, .slice A n c], .pointer (some ⟨B, 0, none⟩)] w fun e w' => e = .returned (.tuple #[.string s, .bool (defP (decide (0 < n)) b)]) ∧ Below w.heap.size w w' := by
  have HC := Lib.hid def_chooses
  have hBl := World.block_lt_of_cell? w _ hB
  go_enter Try.func98, Try.ntmps98
  go_upto_region 1 with fail
  have HX := heap_alloc_new w (.cells #[.string s, .int .i64 b, .int .i64 q, .slice A n c] 78)
  have HB := Lib.hid (balloc (Below.refl _ w) (.cells #[.string s, .int .i64 b, .int .i64 q, .slice A n c] 78))
  have hB1 := (cellNext hBl HB.out 0).trans hB
  clear hB hBl
  generalize w.alloc (.cells #[.string s, .int .i64 b, .int .i64 q, .slice A n c] 78) = W0 at *
  have hd : W0.drew.cell? ⟨w.heap.size, 0, none⟩ = some (.string s) ∧ W0.drew.cell? ⟨w.heap.size, 1, none⟩ = some (.int .i64 b) ∧ W0.drew.cell? ⟨w.heap.size, 2, none⟩ = some (.int .i64 q) ∧ W0.drew.cell? ⟨w.heap.size, 3, none⟩ = some (.slice A n c) ∧ W0.drew.cell? ⟨B, 0, none⟩ = some (.func (.func 61) #[] #[]) := ⟨Lib.cell_of_heap HX 0, Lib.cell_of_heap HX 1, Lib.cell_of_heap HX 2, Lib.cell_of_heap HX 3, hB1⟩
  refine wp_region_held_drew (S := (fun U => U.cell? ⟨w.heap.size, 0, none⟩ = some (.string s) ∧ U.cell? ⟨w.heap.size, 1, none⟩ = some (.int .i64 b) ∧ U.cell? ⟨w.heap.size, 2, none⟩ = some (.int .i64 q) ∧ U.cell? ⟨w.heap.size, 3, none⟩ = some (.slice A n c) ∧ U.cell? ⟨B, 0, none⟩ = some (.func (.func 61) #[] #[]))) (by kernel_rfl) hd (fun hHeld => ?_)
  refine wpAnyH_take (i := 0) (v := ?_) rfl (by kernel_rfl) (by kernel_rfl) (by kernel_rfl) (fun _ _ _ h => h) (Or.inl ⟨by rfl, ?_⟩) hHeld ?_
  rotate_left
  · intro W' hSw; (try dsimp only at hSw); go_simp; try (with_reducible rfl)
  (try simp only [Act.put, List.getElem_toArray, List.getElem_cons_zero, List.setIfInBounds_toArray, List.set_cons_zero, List.set_cons_succ])
  refine wpAnyH_take (i := 1) (v := ?_) rfl (by kernel_rfl) (by kernel_rfl) (by kernel_rfl) (fun _ _ _ h => h) (Or.inl ⟨by rfl, ?_⟩) hHeld ?_
  rotate_left
  · intro W' hSw; (try dsimp only at hSw); go_simp; try (with_reducible rfl)
  (try simp only [Act.put, List.getElem_toArray, List.getElem_cons_zero, List.getElem_cons_succ, List.setIfInBounds_toArray, List.set_cons_zero, List.set_cons_succ])
  refine wpAnyH_take (i := 2) (v := ?_) rfl (by kernel_rfl) (by kernel_rfl) (by kernel_rfl) (fun _ _ _ h => h) (Or.inl ⟨by rfl, ?_⟩) hHeld ?_
  rotate_left
  · intro W' hSw; (try dsimp only at hSw); go_simp; try (with_reducible rfl)
  (try simp only [Act.put, List.getElem_toArray, List.getElem_cons_zero, List.getElem_cons_succ, List.setIfInBounds_toArray, List.set_cons_zero, List.set_cons_succ])
  refine wpAnyH_take (i := 3) (v := ?_) rfl (by kernel_rfl) (by kernel_rfl) (by kernel_rfl) (fun _ _ _ h => h) (Or.inl ⟨by rfl, ?_⟩) hHeld ?_
  rotate_left
  · intro W' hSw; (try dsimp only at hSw); go_simp; try (with_reducible rfl)
  (try simp only [Act.put, List.getElem_toArray, List.getElem_cons_zero, List.getElem_cons_succ, List.setIfInBounds_toArray, List.set_cons_zero, List.set_cons_succ])
  refine wpAnyH_take (i := 4) (v := ?_) rfl (by kernel_rfl) (by kernel_rfl) (by kernel_rfl) (fun _ _ _ h => h) (Or.inl ⟨by rfl, ?_⟩) hHeld ?_
  rotate_left
  · intro W' hSw; (try dsimp only at hSw); go_simp; try (with_reducible rfl)
  (try simp only [Act.put, List.getElem_toArray, List.getElem_cons_zero, List.getElem_cons_succ, List.setIfInBounds_toArray, List.set_cons_zero, List.set_cons_succ])
  refine wpAnyH_take (i := 5) (v := ?_) rfl (by kernel_rfl) (by kernel_rfl) (by kernel_rfl) (fun _ _ _ h => h) (Or.inl ⟨by rfl, ?_⟩) hHeld ?_
  rotate_left
  · intro W' hSw; (try dsimp only at hSw); go_simp; try (with_reducible rfl)
  (try simp only [Act.put, List.getElem_toArray, List.getElem_cons_zero, List.getElem_cons_succ, List.setIfInBounds_toArray, List.set_cons_zero, List.set_cons_succ])
  refine wpAnyH_take (i := 6) (v := ?_) rfl (by kernel_rfl) (by kernel_rfl) (by kernel_rfl) (fun _ _ _ h => h) (Or.inl ⟨by rfl, ?_⟩) hHeld ?_
  rotate_left
  · intro W' hSw; (try dsimp only at hSw); go_simp; try (with_reducible rfl)
  (try simp only [Act.put, List.getElem_toArray, List.getElem_cons_zero, List.getElem_cons_succ, List.setIfInBounds_toArray, List.set_cons_zero, List.set_cons_succ])
  refine wpAnyH_take (i := 7) (v := ?_) rfl (by kernel_rfl) (by kernel_rfl) (by kernel_rfl) (fun _ _ _ h => h) (Or.inl ⟨by rfl, ?_⟩) hHeld ?_
  rotate_left
  · intro W' hSw; (try dsimp only at hSw); go_simp; try (with_reducible rfl)
  (try simp only [Act.put, List.getElem_toArray, List.getElem_cons_zero, List.getElem_cons_succ, List.setIfInBounds_toArray, List.set_cons_zero, List.set_cons_succ])
  refine wpAnyH_take (i := 8) (v := ?_) rfl (by kernel_rfl) (by kernel_rfl) (by kernel_rfl) (fun _ _ _ h => h) (Or.inl ⟨by rfl, ?_⟩) hHeld ?_
  rotate_left
  · intro W' hSw; (try dsimp only at hSw); go_simp; try (with_reducible rfl)
  (try simp only [Act.put, List.getElem_toArray, List.getElem_cons_zero, List.getElem_cons_succ, List.setIfInBounds_toArray, List.set_cons_zero, List.set_cons_succ])
  refine wpAnyH_ready (rs := [9]) (by kernel_rfl) (by simp) ?_
  refine AllReadyH.cons rfl (fun K hK => ?_) AllReadyH.nil
  go_simp
  refine Calls.mono (HC.out _ _ _) ?_
  rintro r u1 ⟨rfl, rfl⟩
  refine hK.out _ _ hHeld (fun hHeld2 => ?_)
  clear hK
  (try simp only [Act.put, List.getElem_toArray, List.getElem_cons_zero, List.getElem_cons_succ, List.setIfInBounds_toArray, List.set_cons_zero, List.set_cons_succ])
  refine wpAnyH_take (i := 10) (v := ?_) rfl (by kernel_rfl) (by kernel_rfl) (by kernel_rfl) (fun _ _ _ h => h) (Or.inl ⟨by rfl, ?_⟩) hHeld2 ?_
  rotate_left
  · intro W' hSw; (try dsimp only at hSw); go_simp; try (with_reducible rfl)
  (try simp only [Act.put, List.getElem_toArray, List.getElem_cons_zero, List.getElem_cons_succ, List.setIfInBounds_toArray, List.set_cons_zero, List.set_cons_succ])
  refine wpAnyH_take (i := 11) (v := ?_) rfl (by kernel_rfl) (by kernel_rfl) (by kernel_rfl) (fun _ _ _ h => h) (Or.inl ⟨by rfl, ?_⟩) hHeld2 ?_
  rotate_left
  · intro W' hSw; (try dsimp only at hSw); go_simp; try (with_reducible rfl)
  (try simp only [Act.put, List.getElem_toArray, List.getElem_cons_zero, List.getElem_cons_succ, List.setIfInBounds_toArray, List.set_cons_zero, List.set_cons_succ])
  refine wpAnyH_done (by kernel_rfl) ?_ _
  go_wp2_with fail
  go_ret2
  exact ⟨rfl, HB.out.drew⟩
set_option maxRecDepth 100000 in
set_option maxHeartbeats 4000000 in
theorem told2D_any (s : ByteArray) (b i : Int) (h : Bool) (B : Nat) (w : World) (hB : w.cell? ⟨B, 0, none⟩ = some (.func (.func 61) #[] #[])) :
    Calls Try.prog 100 #[.agg #[.string s, .int .i64 b, .bool h, .int .u64 i], .pointer (some ⟨B, 0, none⟩)] w fun e w' => e = .returned (.tuple #[.string s, .bool (defP h b)]) ∧ Below w.heap.size w w' := by
  have HC := Lib.hid def_chooses
  have hBl := World.block_lt_of_cell? w _ hB
  go_enter Try.func100, Try.ntmps100
  go_upto_region 1 with fail
  have HX := heap_alloc_new w (.cells #[.string s, .int .i64 b, .bool h, .int .u64 i] 80)
  have HB := Lib.hid (balloc (Below.refl _ w) (.cells #[.string s, .int .i64 b, .bool h, .int .u64 i] 80))
  have hB1 := (cellNext hBl HB.out 0).trans hB
  clear hB hBl
  generalize w.alloc (.cells #[.string s, .int .i64 b, .bool h, .int .u64 i] 80) = W0 at *
  have hd : W0.drew.cell? ⟨w.heap.size, 0, none⟩ = some (.string s) ∧ W0.drew.cell? ⟨w.heap.size, 1, none⟩ = some (.int .i64 b) ∧ W0.drew.cell? ⟨w.heap.size, 2, none⟩ = some (.bool h) ∧ W0.drew.cell? ⟨w.heap.size, 3, none⟩ = some (.int .u64 i) ∧ W0.drew.cell? ⟨B, 0, none⟩ = some (.func (.func 61) #[] #[]) := ⟨Lib.cell_of_heap HX 0, Lib.cell_of_heap HX 1, Lib.cell_of_heap HX 2, Lib.cell_of_heap HX 3, hB1⟩
  refine wp_region_held_drew (S := (fun U => U.cell? ⟨w.heap.size, 0, none⟩ = some (.string s) ∧ U.cell? ⟨w.heap.size, 1, none⟩ = some (.int .i64 b) ∧ U.cell? ⟨w.heap.size, 2, none⟩ = some (.bool h) ∧ U.cell? ⟨w.heap.size, 3, none⟩ = some (.int .u64 i) ∧ U.cell? ⟨B, 0, none⟩ = some (.func (.func 61) #[] #[]))) (by kernel_rfl) hd (fun hHeld => ?_)
  refine wpAnyH_take (i := 0) (v := ?_) rfl (by kernel_rfl) (by kernel_rfl) (by kernel_rfl) (fun _ _ _ h => h) (Or.inl ⟨by rfl, ?_⟩) hHeld ?_
  rotate_left
  · intro W' hSw; (try dsimp only at hSw); go_simp; try (with_reducible rfl)
  (try simp only [Act.put, List.getElem_toArray, List.getElem_cons_zero, List.setIfInBounds_toArray, List.set_cons_zero, List.set_cons_succ])
  refine wpAnyH_take (i := 1) (v := ?_) rfl (by kernel_rfl) (by kernel_rfl) (by kernel_rfl) (fun _ _ _ h => h) (Or.inl ⟨by rfl, ?_⟩) hHeld ?_
  rotate_left
  · intro W' hSw; (try dsimp only at hSw); go_simp; try (with_reducible rfl)
  (try simp only [Act.put, List.getElem_toArray, List.getElem_cons_zero, List.getElem_cons_succ, List.setIfInBounds_toArray, List.set_cons_zero, List.set_cons_succ])
  refine wpAnyH_take (i := 2) (v := ?_) rfl (by kernel_rfl) (by kernel_rfl) (by kernel_rfl) (fun _ _ _ h => h) (Or.inl ⟨by rfl, ?_⟩) hHeld ?_
  rotate_left
  · intro W' hSw; (try dsimp only at hSw); go_simp; try (with_reducible rfl)
  (try simp only [Act.put, List.getElem_toArray, List.getElem_cons_zero, List.getElem_cons_succ, List.setIfInBounds_toArray, List.set_cons_zero, List.set_cons_succ])
  refine wpAnyH_take (i := 3) (v := ?_) rfl (by kernel_rfl) (by kernel_rfl) (by kernel_rfl) (fun _ _ _ h => h) (Or.inl ⟨by rfl, ?_⟩) hHeld ?_
  rotate_left
  · intro W' hSw; (try dsimp only at hSw); go_simp; try (with_reducible rfl)
  (try simp only [Act.put, List.getElem_toArray, List.getElem_cons_zero, List.getElem_cons_succ, List.setIfInBounds_toArray, List.set_cons_zero, List.set_cons_succ])
  refine wpAnyH_take (i := 4) (v := ?_) rfl (by kernel_rfl) (by kernel_rfl) (by kernel_rfl) (fun _ _ _ h => h) (Or.inl ⟨by rfl, ?_⟩) hHeld ?_
  rotate_left
  · intro W' hSw; (try dsimp only at hSw); go_simp; try (with_reducible rfl)
  (try simp only [Act.put, List.getElem_toArray, List.getElem_cons_zero, List.getElem_cons_succ, List.setIfInBounds_toArray, List.set_cons_zero, List.set_cons_succ])
  refine wpAnyH_take (i := 5) (v := ?_) rfl (by kernel_rfl) (by kernel_rfl) (by kernel_rfl) (fun _ _ _ h => h) (Or.inl ⟨by rfl, ?_⟩) hHeld ?_
  rotate_left
  · intro W' hSw; (try dsimp only at hSw); go_simp; try (with_reducible rfl)
  (try simp only [Act.put, List.getElem_toArray, List.getElem_cons_zero, List.getElem_cons_succ, List.setIfInBounds_toArray, List.set_cons_zero, List.set_cons_succ])
  refine wpAnyH_take (i := 6) (v := ?_) rfl (by kernel_rfl) (by kernel_rfl) (by kernel_rfl) (fun _ _ _ h => h) (Or.inl ⟨by rfl, ?_⟩) hHeld ?_
  rotate_left
  · intro W' hSw; (try dsimp only at hSw); go_simp; try (with_reducible rfl)
  (try simp only [Act.put, List.getElem_toArray, List.getElem_cons_zero, List.getElem_cons_succ, List.setIfInBounds_toArray, List.set_cons_zero, List.set_cons_succ])
  refine wpAnyH_ready (rs := [7]) (by kernel_rfl) (by simp) ?_
  refine AllReadyH.cons rfl (fun K hK => ?_) AllReadyH.nil
  go_simp
  refine Calls.mono (HC.out _ _ _) ?_
  rintro r u1 ⟨rfl, rfl⟩
  refine hK.out _ _ hHeld (fun hHeld2 => ?_)
  clear hK
  (try simp only [Act.put, List.getElem_toArray, List.getElem_cons_zero, List.getElem_cons_succ, List.setIfInBounds_toArray, List.set_cons_zero, List.set_cons_succ])
  refine wpAnyH_take (i := 8) (v := ?_) rfl (by kernel_rfl) (by kernel_rfl) (by kernel_rfl) (fun _ _ _ h => h) (Or.inl ⟨by rfl, ?_⟩) hHeld2 ?_
  rotate_left
  · intro W' hSw; (try dsimp only at hSw); go_simp; try (with_reducible rfl)
  (try simp only [Act.put, List.getElem_toArray, List.getElem_cons_zero, List.getElem_cons_succ, List.setIfInBounds_toArray, List.set_cons_zero, List.set_cons_succ])
  refine wpAnyH_take (i := 9) (v := ?_) rfl (by kernel_rfl) (by kernel_rfl) (by kernel_rfl) (fun _ _ _ h => h) (Or.inl ⟨by rfl, ?_⟩) hHeld2 ?_
  rotate_left
  · intro W' hSw; (try dsimp only at hSw); go_simp; try (with_reducible rfl)
  (try simp only [Act.put, List.getElem_toArray, List.getElem_cons_zero, List.getElem_cons_succ, List.setIfInBounds_toArray, List.set_cons_zero, List.set_cons_succ])
  refine wpAnyH_done (by kernel_rfl) ?_ _
  go_wp2_with fail
  go_ret2
  exact ⟨rfl, HB.out.drew⟩
theorem selF_take {p : Bool → Int → Bool} {l : List Fn} {i : Nat} (h : i < l.length) : selF p (l.take (i + 1)) = if (p (decide (0 < l[i].l.length)) l[i].b) = true then selF p (l.take i) ++ [l[i].s] else selF p (l.take i) := by
  rw [List.take_succ_eq_append_getElem h]
  unfold selF
  rw [List.filter_append, List.map_append]
  cases hq : p (decide (0 < l[i].l.length)) l[i].b <;> simp [hq]
theorem selF_len (p : Bool → Int → Bool) (l : List Fn) : (selF p l).length ≤ l.length := by
  unfold selF
  rw [List.length_map]
  exact List.length_filter_le _ _
set_option maxRecDepth 100000 in
set_option maxHeartbeats 8000000 in
theorem namesFD_any (xs : List Fn) (A : Option Addr) (n c B : Nat) (w : World) (hn : xs.length = n) (h16 : n * 16 ≤ 140737488355000) (hB : w.cell? ⟨B, 0, none⟩ = some (.func (.func 61) #[] #[])) (hS : Funcs w (.slice A n c) xs) :
    Calls Try.prog 97 #[.slice A n c, .func (.func 98) #[] #[.pointer (some ⟨B, 0, none⟩)]] w (NewOwn (selF defP xs) w) := by
  have HS := Lib.hid hS
  have HN := Lib.hid (show xs.length ≤ n ∧ n ≤ xs.length by omega)
  have H16 := Lib.hid h16
  have hBl := World.block_lt_of_cell? w _ hB
  have HBC := Lib.hid (fun (U : World) (hU : Below w.heap.size w U) => (cellNext hBl hU 0).trans hB)
  have n1 : (n : Int) ≤ 9223372036854775807 := by omega
  obtain ⟨i0, qi, qz0, qz1, qz2⟩ := str_inf
  have HII := Lib.hid (And.intro qi (And.intro qz0 (And.intro qz1 qz2)))
  clear hS hn h16 hB hBl qi qz0 qz1 qz2
  go_enter Try.func97, Try.ntmps97
  go_wp2_with fail
  go_loopw [5, 12] (fun vv iv wr => ∃ i : Nat, i ≤ n ∧ iv = .int .i64 i ∧ OwnsN wr w.heap.size vv (selF defP (xs.take i)) ∧ Below w.heap.size w wr) (fun _ iv _ => n - (intOf iv).toNat)
  case atStart => exact ⟨0, Nat.zero_le _, rfl, ⟨rfl, .inl ⟨rfl, rfl⟩⟩, Below.refl _ _⟩
  case round =>
    obtain ⟨i, hi, rfl, ho, hb⟩ := hrel
    have HL16 := Lib.hid (show ((selF defP (xs.take i)).length + 1) * 16 ≤ 140737488355016 by
      have h1 := selF_len defP (xs.take i)
      rw [List.length_take] at h1
      have := HN.out
      have := H16.out
      omega)
    have HX := Lib.hid (fun (h : i < xs.length) => selF_take (p := defP) h)
    have HAL0 := Lib.hid (show i = n → selF defP (xs.take i) = selF defP xs from fun h => by rw [List.take_of_length_le (by have := HN.out; omega)])
    obtain ⟨L, hL⟩ : ∃ L, selF defP (xs.take i) = L := ⟨_, rfl⟩
    rw [hL] at ho HL16 HAL0
    simp only [hL] at HX
    have HO := Lib.hid ho
    have HB := Lib.hid hb
    obtain ⟨A0, z0, hv0⟩ := ho.form
    clear hb hL
    by_cases hlt : i < n
    · have hm : i < xs.length := by have := HN.out; omega
      obtain ⟨b2, off2, hA2, hbl2, e2⟩ := RowOf.at_ (HS.out.next HB.out) hm
      subst hA2
      have HN1 := Lib.hid (HX.out hm)
      obtain ⟨x, hx⟩ : ∃ x, xs[i] = x := ⟨_, rfl⟩
      rw [hx] at e2 HN1
      obtain ⟨g0, g1, g2, A3, z3, g3, -⟩ := e2
      obtain ⟨x0, h0⟩ : ∃ z, x.s = z := ⟨_, rfl⟩
      obtain ⟨x1, h1⟩ : ∃ z, x.b = z := ⟨_, rfl⟩
      obtain ⟨x2, h2⟩ : ∃ z, x.p = z := ⟨_, rfl⟩
      obtain ⟨x3, h3⟩ : ∃ z, x.l.length = z := ⟨_, rfl⟩
      rw [h0] at g0 HN1
      rw [h1] at g1 HN1
      rw [h2] at g2
      rw [h3] at g3 HN1
      clear h0 h1 h2 h3
      obtain ⟨nL, hnL⟩ : ∃ n, L.length = n := ⟨_, rfl⟩
      rw [hnL] at hv0 HL16
      subst hv0
      have HNQ := Lib.hid hnL
      have HT := Lib.hid (fun (U : World) (hU : Below w.heap.size w U) => told1D_any x0 x1 x2 A3 x3 z3 B U (HBC.out U hU))
      obtain ⟨Q, hQ⟩ : ∃ Q, defP (decide (0 < x3)) x1 = Q := ⟨_, rfl⟩
      rw [hQ] at HT HN1
      have r0 : (0 : Int) ≤ (i : Int) := Int.natCast_nonneg _
      have r1 : (i : Int) < (n : Int) := by omega
      have HLT := Lib.hid hlt
      have HBX0 := Lib.hid (balloc (Below.refl _ wr) (.cells #[.string x0, .int .i64 x1, .int .i64 x2, .slice A3 x3 z3] 78))
      have HB1 := Lib.hid (bthen HB.out HBX0.out)
      clear hx hm hlt hnL ho hbl2 hQ
      go_wp2_with fail
      refine (HT.out _ HB1.out).mono ?_
      rintro r w3 ⟨rfl, hb3⟩
      have HB3 := Lib.hid (bthen HB1.out hb3)
      have HO3 := Lib.hid (ownsN_below HO.out (bthen HBX0.out hb3))
      have HSZ3 := Lib.hid HB3.out.size
      clear hb3 g0 g1 g2 g3
      cases Q with
      | false =>
        have HV := Lib.hid (show selF defP (xs.take (i + 1)) = L by rw [HN1.out]; rfl)
        go_wp2_with fail
        go_roundw
        case rel => exact ⟨i + 1, HLT.out, by go_num, by rw [HV.out]; exact HO3.out, HB3.out⟩
        case measure => have := HLT.out; simp [intOf]; omega
      | true =>
        have HV := Lib.hid (show selF defP (xs.take (i + 1)) = L ++ [x0] by rw [HN1.out]; rfl)
        have HAL := Lib.hid (ownsN_kept HO3.out (World.grownBy_alloc w3 (.cells #[.string x0] 9) none) (by by_cases h : (Value.slice A0 nL z0).ownBlock = none; exact .inl h; exact .inr h))
        have HOWN := Lib.hid (show (w3.alloc (.cells #[.string x0] 9)).ownsRow w.heap.size 9 1 (.slice A0 nL z0) nL (strRow L) by have := HAL.out; unfold OwnsN at this; rwa [HNQ.out] at this)
        have HONE := Lib.hid (show ∀ u ∈ [Value.string x0], u.oneCell' = true from fun u hu => by obtain rfl : u = Value.string x0 := (by simpa using hu); rfl)
        have HM63 := Lib.hid (show nL + 1 ≤ maxLen by unfold maxLen; have := HL16.out; omega)
        have HM16 := Lib.hid (show (nL + 1) * 16 ≤ 140737488355328 by have := HL16.out; omega)
        have HBAS := Lib.hid (show w.heap.size ≤ (w3.alloc (.cells #[.string x0] 9)).heap.size by have := HSZ3.out; simp; omega)
        have HBX := Lib.hid (balloc (Below.refl _ w3) (.cells #[.string x0] 9))
        go_wp2_with (at_builtin; go_loud (refine wpList_append_own_at _ rfl _ _ 49 rfl w.heap.size 9 i0 (.string ⟨#[]⟩) 1 16 Try.underlying49 HII.out.1 HII.out.2.1 HII.out.2.2.1 HII.out.2.2.2 rfl (by omega) (.slice A0 nL z0) nL (strRow L) rfl HOWN.out ⟨w3.heap.size, 0, none⟩ 1 1 [.string x0] rfl rfl (cell_one_new _ _ _) HONE.out HM63.out HM16.out HBAS.out ?_; intro v' w4 hown hgrow hnil hat))
        have HG := Lib.hid hgrow
        have HOW := Lib.hid hown
        clear hgrow hown hnil hat
        go_wp2_with fail
        have HBB := Lib.hid (show Below w.heap.size w w4 from below_grown HG.out (bthen HB3.out HBX.out).size (fun r e => (HO3.out.block _ e).1) |> fun g => (bthen HB3.out HBX.out).trans g)
        go_roundw
        case rel =>
          refine ⟨i + 1, HLT.out, by go_num, ?_, HBB.out⟩
          rw [HV.out]
          unfold OwnsN
          rw [List.length_append, HNQ.out]
          simpa [strRow] using HOW.out
        case measure => have := HLT.out; simp [intOf]; omega
    · have hd : decide ((i : Int) < (n : Int)) = false := by simp; omega
      have HV := Lib.hid (HAL0.out (by omega))
      subst hv0
      go_wp2_with fail
      go_ret
      exact ⟨_, rfl, by rw [← HV.out]; exact HO.out, HB.out⟩
theorem selG_take {p : Bool → Int → Bool} {l : List Gl} {i : Nat} (h : i < l.length) : selG p (l.take (i + 1)) = if (p l[i].h l[i].b) = true then selG p (l.take i) ++ [l[i].s] else selG p (l.take i) := by
  rw [List.take_succ_eq_append_getElem h]
  unfold selG
  rw [List.filter_append, List.map_append]
  cases hq : p l[i].h l[i].b <;> simp [hq]
theorem selG_len (p : Bool → Int → Bool) (l : List Gl) : (selG p l).length ≤ l.length := by
  unfold selG
  rw [List.length_map]
  exact List.length_filter_le _ _
set_option maxRecDepth 100000 in
set_option maxHeartbeats 8000000 in
theorem namesGD_any (xs : List Gl) (A : Option Addr) (n c B : Nat) (w : World) (hn : xs.length = n) (h16 : n * 16 ≤ 140737488355000) (hB : w.cell? ⟨B, 0, none⟩ = some (.func (.func 61) #[] #[])) (hS : Globs w (.slice A n c) xs) :
    Calls Try.prog 99 #[.slice A n c, .func (.func 100) #[] #[.pointer (some ⟨B, 0, none⟩)]] w (NewOwn (selG defP xs) w) := by
  have HS := Lib.hid hS
  have HN := Lib.hid (show xs.length ≤ n ∧ n ≤ xs.length by omega)
  have H16 := Lib.hid h16
  have hBl := World.block_lt_of_cell? w _ hB
  have HBC := Lib.hid (fun (U : World) (hU : Below w.heap.size w U) => (cellNext hBl hU 0).trans hB)
  have n1 : (n : Int) ≤ 9223372036854775807 := by omega
  obtain ⟨i0, qi, qz0, qz1, qz2⟩ := str_inf
  have HII := Lib.hid (And.intro qi (And.intro qz0 (And.intro qz1 qz2)))
  clear hS hn h16 hB hBl qi qz0 qz1 qz2
  go_enter Try.func99, Try.ntmps99
  go_wp2_with fail
  go_loopw [5, 12] (fun vv iv wr => ∃ i : Nat, i ≤ n ∧ iv = .int .i64 i ∧ OwnsN wr w.heap.size vv (selG defP (xs.take i)) ∧ Below w.heap.size w wr) (fun _ iv _ => n - (intOf iv).toNat)
  case atStart => exact ⟨0, Nat.zero_le _, rfl, ⟨rfl, .inl ⟨rfl, rfl⟩⟩, Below.refl _ _⟩
  case round =>
    obtain ⟨i, hi, rfl, ho, hb⟩ := hrel
    have HL16 := Lib.hid (show ((selG defP (xs.take i)).length + 1) * 16 ≤ 140737488355016 by
      have h1 := selG_len defP (xs.take i)
      rw [List.length_take] at h1
      have := HN.out
      have := H16.out
      omega)
    have HX := Lib.hid (fun (h : i < xs.length) => selG_take (p := defP) h)
    have HAL0 := Lib.hid (show i = n → selG defP (xs.take i) = selG defP xs from fun h => by rw [List.take_of_length_le (by have := HN.out; omega)])
    obtain ⟨L, hL⟩ : ∃ L, selG defP (xs.take i) = L := ⟨_, rfl⟩
    rw [hL] at ho HL16 HAL0
    simp only [hL] at HX
    have HO := Lib.hid ho
    have HB := Lib.hid hb
    obtain ⟨A0, z0, hv0⟩ := ho.form
    clear hb hL
    by_cases hlt : i < n
    · have hm : i < xs.length := by have := HN.out; omega
      obtain ⟨b2, off2, hA2, hbl2, e2⟩ := RowOf.at_ (HS.out.next HB.out) hm
      subst hA2
      have HN1 := Lib.hid (HX.out hm)
      obtain ⟨x, hx⟩ : ∃ x, xs[i] = x := ⟨_, rfl⟩
      rw [hx] at e2 HN1
      obtain ⟨g0, g1, g2, g3⟩ := e2
      obtain ⟨x0, h0⟩ : ∃ z, x.s = z := ⟨_, rfl⟩
      obtain ⟨x1, h1⟩ : ∃ z, x.b = z := ⟨_, rfl⟩
      obtain ⟨x2, h2⟩ : ∃ z, x.h = z := ⟨_, rfl⟩
      obtain ⟨x3, h3⟩ : ∃ z, x.i = z := ⟨_, rfl⟩
      rw [h0] at g0 HN1
      rw [h1] at g1 HN1
      rw [h2] at g2 HN1
      rw [h3] at g3
      clear h0 h1 h2 h3
      obtain ⟨nL, hnL⟩ : ∃ n, L.length = n := ⟨_, rfl⟩
      rw [hnL] at hv0 HL16
      subst hv0
      have HNQ := Lib.hid hnL
      have HT := Lib.hid (fun (U : World) (hU : Below w.heap.size w U) => told2D_any x0 x1 x3 x2 B U (HBC.out U hU))
      obtain ⟨Q, hQ⟩ : ∃ Q, defP x2 x1 = Q := ⟨_, rfl⟩
      rw [hQ] at HT HN1
      have r0 : (0 : Int) ≤ (i : Int) := Int.natCast_nonneg _
      have r1 : (i : Int) < (n : Int) := by omega
      have HLT := Lib.hid hlt
      have HBX0 := Lib.hid (balloc (Below.refl _ wr) (.cells #[.string x0, .int .i64 x1, .bool x2, .int .u64 x3] 80))
      have HB1 := Lib.hid (bthen HB.out HBX0.out)
      clear hx hm hlt hnL ho hbl2 hQ
      go_wp2_with fail
      refine (HT.out _ HB1.out).mono ?_
      rintro r w3 ⟨rfl, hb3⟩
      have HB3 := Lib.hid (bthen HB1.out hb3)
      have HO3 := Lib.hid (ownsN_below HO.out (bthen HBX0.out hb3))
      have HSZ3 := Lib.hid HB3.out.size
      clear hb3 g0 g1 g2 g3
      cases Q with
      | false =>
        have HV := Lib.hid (show selG defP (xs.take (i + 1)) = L by rw [HN1.out]; rfl)
        go_wp2_with fail
        go_roundw
        case rel => exact ⟨i + 1, HLT.out, by go_num, by rw [HV.out]; exact HO3.out, HB3.out⟩
        case measure => have := HLT.out; simp [intOf]; omega
      | true =>
        have HV := Lib.hid (show selG defP (xs.take (i + 1)) = L ++ [x0] by rw [HN1.out]; rfl)
        have HAL := Lib.hid (ownsN_kept HO3.out (World.grownBy_alloc w3 (.cells #[.string x0] 9) none) (by by_cases h : (Value.slice A0 nL z0).ownBlock = none; exact .inl h; exact .inr h))
        have HOWN := Lib.hid (show (w3.alloc (.cells #[.string x0] 9)).ownsRow w.heap.size 9 1 (.slice A0 nL z0) nL (strRow L) by have := HAL.out; unfold OwnsN at this; rwa [HNQ.out] at this)
        have HONE := Lib.hid (show ∀ u ∈ [Value.string x0], u.oneCell' = true from fun u hu => by obtain rfl : u = Value.string x0 := (by simpa using hu); rfl)
        have HM63 := Lib.hid (show nL + 1 ≤ maxLen by unfold maxLen; have := HL16.out; omega)
        have HM16 := Lib.hid (show (nL + 1) * 16 ≤ 140737488355328 by have := HL16.out; omega)
        have HBAS := Lib.hid (show w.heap.size ≤ (w3.alloc (.cells #[.string x0] 9)).heap.size by have := HSZ3.out; simp; omega)
        have HBX := Lib.hid (balloc (Below.refl _ w3) (.cells #[.string x0] 9))
        go_wp2_with (at_builtin; go_loud (refine wpList_append_own_at _ rfl _ _ 49 rfl w.heap.size 9 i0 (.string ⟨#[]⟩) 1 16 Try.underlying49 HII.out.1 HII.out.2.1 HII.out.2.2.1 HII.out.2.2.2 rfl (by omega) (.slice A0 nL z0) nL (strRow L) rfl HOWN.out ⟨w3.heap.size, 0, none⟩ 1 1 [.string x0] rfl rfl (cell_one_new _ _ _) HONE.out HM63.out HM16.out HBAS.out ?_; intro v' w4 hown hgrow hnil hat))
        have HG := Lib.hid hgrow
        have HOW := Lib.hid hown
        clear hgrow hown hnil hat
        go_wp2_with fail
        have HBB := Lib.hid (show Below w.heap.size w w4 from below_grown HG.out (bthen HB3.out HBX.out).size (fun r e => (HO3.out.block _ e).1) |> fun g => (bthen HB3.out HBX.out).trans g)
        go_roundw
        case rel =>
          refine ⟨i + 1, HLT.out, by go_num, ?_, HBB.out⟩
          rw [HV.out]
          unfold OwnsN
          rw [List.length_append, HNQ.out]
          simpa [strRow] using HOW.out
        case measure => have := HLT.out; simp [intOf]; omega
    · have hd : decide ((i : Int) < (n : Int)) = false := by simp; omega
      have HV := Lib.hid (HAL0.out (by omega))
      subst hv0
      go_wp2_with fail
      go_ret
      exact ⟨_, rfl, by rw [← HV.out]; exact HO.out, HB.out⟩
set_option maxRecDepth 100000 in
set_option maxHeartbeats 4000000 in
theorem told1W_any (s : ByteArray) (b q : Int) (A : Option Addr) (n c : Nat) (B : Nat) (w : World) (hB : w.cell? ⟨B, 0, none⟩ = some (.func (.func 62) #[] #[])) :
    Calls Try.prog 98 #[.agg #[.string s, .int .i64 b, .int .i64 q, .slice A n c], .pointer (some ⟨B, 0, none⟩)] w fun e w' => e = .returned (.tuple #[.string s, .bool (wantP (decide (0 < n)) b)]) ∧ Below w.heap.size w w' := by
  have HC := Lib.hid want_chooses
  have hBl := World.block_lt_of_cell? w _ hB
  go_enter Try.func98, Try.ntmps98
  go_upto_region 1 with fail
  have HX := heap_alloc_new w (.cells #[.string s, .int .i64 b, .int .i64 q, .slice A n c] 78)
  have HB := Lib.hid (balloc (Below.refl _ w) (.cells #[.string s, .int .i64 b, .int .i64 q, .slice A n c] 78))
  have hB1 := (cellNext hBl HB.out 0).trans hB
  clear hB hBl
  generalize w.alloc (.cells #[.string s, .int .i64 b, .int .i64 q, .slice A n c] 78) = W0 at *
  have hd : W0.drew.cell? ⟨w.heap.size, 0, none⟩ = some (.string s) ∧ W0.drew.cell? ⟨w.heap.size, 1, none⟩ = some (.int .i64 b) ∧ W0.drew.cell? ⟨w.heap.size, 2, none⟩ = some (.int .i64 q) ∧ W0.drew.cell? ⟨w.heap.size, 3, none⟩ = some (.slice A n c) ∧ W0.drew.cell? ⟨B, 0, none⟩ = some (.func (.func 62) #[] #[]) := ⟨Lib.cell_of_heap HX 0, Lib.cell_of_heap HX 1, Lib.cell_of_heap HX 2, Lib.cell_of_heap HX 3, hB1⟩
  refine wp_region_held_drew (S := (fun U => U.cell? ⟨w.heap.size, 0, none⟩ = some (.string s) ∧ U.cell? ⟨w.heap.size, 1, none⟩ = some (.int .i64 b) ∧ U.cell? ⟨w.heap.size, 2, none⟩ = some (.int .i64 q) ∧ U.cell? ⟨w.heap.size, 3, none⟩ = some (.slice A n c) ∧ U.cell? ⟨B, 0, none⟩ = some (.func (.func 62) #[] #[]))) (by kernel_rfl) hd (fun hHeld => ?_)
  refine wpAnyH_take (i := 0) (v := ?_) rfl (by kernel_rfl) (by kernel_rfl) (by kernel_rfl) (fun _ _ _ h => h) (Or.inl ⟨by rfl, ?_⟩) hHeld ?_
  rotate_left
  · intro W' hSw; (try dsimp only at hSw); go_simp; try (with_reducible rfl)
  (try simp only [Act.put, List.getElem_toArray, List.getElem_cons_zero, List.setIfInBounds_toArray, List.set_cons_zero, List.set_cons_succ])
  refine wpAnyH_take (i := 1) (v := ?_) rfl (by kernel_rfl) (by kernel_rfl) (by kernel_rfl) (fun _ _ _ h => h) (Or.inl ⟨by rfl, ?_⟩) hHeld ?_
  rotate_left
  · intro W' hSw; (try dsimp only at hSw); go_simp; try (with_reducible rfl)
  (try simp only [Act.put, List.getElem_toArray, List.getElem_cons_zero, List.getElem_cons_succ, List.setIfInBounds_toArray, List.set_cons_zero, List.set_cons_succ])
  refine wpAnyH_take (i := 2) (v := ?_) rfl (by kernel_rfl) (by kernel_rfl) (by kernel_rfl) (fun _ _ _ h => h) (Or.inl ⟨by rfl, ?_⟩) hHeld ?_
  rotate_left
  · intro W' hSw; (try dsimp only at hSw); go_simp; try (with_reducible rfl)
  (try simp only [Act.put, List.getElem_toArray, List.getElem_cons_zero, List.getElem_cons_succ, List.setIfInBounds_toArray, List.set_cons_zero, List.set_cons_succ])
  refine wpAnyH_take (i := 3) (v := ?_) rfl (by kernel_rfl) (by kernel_rfl) (by kernel_rfl) (fun _ _ _ h => h) (Or.inl ⟨by rfl, ?_⟩) hHeld ?_
  rotate_left
  · intro W' hSw; (try dsimp only at hSw); go_simp; try (with_reducible rfl)
  (try simp only [Act.put, List.getElem_toArray, List.getElem_cons_zero, List.getElem_cons_succ, List.setIfInBounds_toArray, List.set_cons_zero, List.set_cons_succ])
  refine wpAnyH_take (i := 4) (v := ?_) rfl (by kernel_rfl) (by kernel_rfl) (by kernel_rfl) (fun _ _ _ h => h) (Or.inl ⟨by rfl, ?_⟩) hHeld ?_
  rotate_left
  · intro W' hSw; (try dsimp only at hSw); go_simp; try (with_reducible rfl)
  (try simp only [Act.put, List.getElem_toArray, List.getElem_cons_zero, List.getElem_cons_succ, List.setIfInBounds_toArray, List.set_cons_zero, List.set_cons_succ])
  refine wpAnyH_take (i := 5) (v := ?_) rfl (by kernel_rfl) (by kernel_rfl) (by kernel_rfl) (fun _ _ _ h => h) (Or.inl ⟨by rfl, ?_⟩) hHeld ?_
  rotate_left
  · intro W' hSw; (try dsimp only at hSw); go_simp; try (with_reducible rfl)
  (try simp only [Act.put, List.getElem_toArray, List.getElem_cons_zero, List.getElem_cons_succ, List.setIfInBounds_toArray, List.set_cons_zero, List.set_cons_succ])
  refine wpAnyH_take (i := 6) (v := ?_) rfl (by kernel_rfl) (by kernel_rfl) (by kernel_rfl) (fun _ _ _ h => h) (Or.inl ⟨by rfl, ?_⟩) hHeld ?_
  rotate_left
  · intro W' hSw; (try dsimp only at hSw); go_simp; try (with_reducible rfl)
  (try simp only [Act.put, List.getElem_toArray, List.getElem_cons_zero, List.getElem_cons_succ, List.setIfInBounds_toArray, List.set_cons_zero, List.set_cons_succ])
  refine wpAnyH_take (i := 7) (v := ?_) rfl (by kernel_rfl) (by kernel_rfl) (by kernel_rfl) (fun _ _ _ h => h) (Or.inl ⟨by rfl, ?_⟩) hHeld ?_
  rotate_left
  · intro W' hSw; (try dsimp only at hSw); go_simp; try (with_reducible rfl)
  (try simp only [Act.put, List.getElem_toArray, List.getElem_cons_zero, List.getElem_cons_succ, List.setIfInBounds_toArray, List.set_cons_zero, List.set_cons_succ])
  refine wpAnyH_take (i := 8) (v := ?_) rfl (by kernel_rfl) (by kernel_rfl) (by kernel_rfl) (fun _ _ _ h => h) (Or.inl ⟨by rfl, ?_⟩) hHeld ?_
  rotate_left
  · intro W' hSw; (try dsimp only at hSw); go_simp; try (with_reducible rfl)
  (try simp only [Act.put, List.getElem_toArray, List.getElem_cons_zero, List.getElem_cons_succ, List.setIfInBounds_toArray, List.set_cons_zero, List.set_cons_succ])
  refine wpAnyH_ready (rs := [9]) (by kernel_rfl) (by simp) ?_
  refine AllReadyH.cons rfl (fun K hK => ?_) AllReadyH.nil
  go_simp
  refine Calls.mono (HC.out _ _ _) ?_
  rintro r u1 ⟨rfl, rfl⟩
  refine hK.out _ _ hHeld (fun hHeld2 => ?_)
  clear hK
  (try simp only [Act.put, List.getElem_toArray, List.getElem_cons_zero, List.getElem_cons_succ, List.setIfInBounds_toArray, List.set_cons_zero, List.set_cons_succ])
  refine wpAnyH_take (i := 10) (v := ?_) rfl (by kernel_rfl) (by kernel_rfl) (by kernel_rfl) (fun _ _ _ h => h) (Or.inl ⟨by rfl, ?_⟩) hHeld2 ?_
  rotate_left
  · intro W' hSw; (try dsimp only at hSw); go_simp; try (with_reducible rfl)
  (try simp only [Act.put, List.getElem_toArray, List.getElem_cons_zero, List.getElem_cons_succ, List.setIfInBounds_toArray, List.set_cons_zero, List.set_cons_succ])
  refine wpAnyH_take (i := 11) (v := ?_) rfl (by kernel_rfl) (by kernel_rfl) (by kernel_rfl) (fun _ _ _ h => h) (Or.inl ⟨by rfl, ?_⟩) hHeld2 ?_
  rotate_left
  · intro W' hSw; (try dsimp only at hSw); go_simp; try (with_reducible rfl)
  (try simp only [Act.put, List.getElem_toArray, List.getElem_cons_zero, List.getElem_cons_succ, List.setIfInBounds_toArray, List.set_cons_zero, List.set_cons_succ])
  refine wpAnyH_done (by kernel_rfl) ?_ _
  go_wp2_with fail
  go_ret2
  exact ⟨rfl, HB.out.drew⟩
set_option maxRecDepth 100000 in
set_option maxHeartbeats 4000000 in
theorem told2W_any (s : ByteArray) (b i : Int) (h : Bool) (B : Nat) (w : World) (hB : w.cell? ⟨B, 0, none⟩ = some (.func (.func 62) #[] #[])) :
    Calls Try.prog 100 #[.agg #[.string s, .int .i64 b, .bool h, .int .u64 i], .pointer (some ⟨B, 0, none⟩)] w fun e w' => e = .returned (.tuple #[.string s, .bool (wantP h b)]) ∧ Below w.heap.size w w' := by
  have HC := Lib.hid want_chooses
  have hBl := World.block_lt_of_cell? w _ hB
  go_enter Try.func100, Try.ntmps100
  go_upto_region 1 with fail
  have HX := heap_alloc_new w (.cells #[.string s, .int .i64 b, .bool h, .int .u64 i] 80)
  have HB := Lib.hid (balloc (Below.refl _ w) (.cells #[.string s, .int .i64 b, .bool h, .int .u64 i] 80))
  have hB1 := (cellNext hBl HB.out 0).trans hB
  clear hB hBl
  generalize w.alloc (.cells #[.string s, .int .i64 b, .bool h, .int .u64 i] 80) = W0 at *
  have hd : W0.drew.cell? ⟨w.heap.size, 0, none⟩ = some (.string s) ∧ W0.drew.cell? ⟨w.heap.size, 1, none⟩ = some (.int .i64 b) ∧ W0.drew.cell? ⟨w.heap.size, 2, none⟩ = some (.bool h) ∧ W0.drew.cell? ⟨w.heap.size, 3, none⟩ = some (.int .u64 i) ∧ W0.drew.cell? ⟨B, 0, none⟩ = some (.func (.func 62) #[] #[]) := ⟨Lib.cell_of_heap HX 0, Lib.cell_of_heap HX 1, Lib.cell_of_heap HX 2, Lib.cell_of_heap HX 3, hB1⟩
  refine wp_region_held_drew (S := (fun U => U.cell? ⟨w.heap.size, 0, none⟩ = some (.string s) ∧ U.cell? ⟨w.heap.size, 1, none⟩ = some (.int .i64 b) ∧ U.cell? ⟨w.heap.size, 2, none⟩ = some (.bool h) ∧ U.cell? ⟨w.heap.size, 3, none⟩ = some (.int .u64 i) ∧ U.cell? ⟨B, 0, none⟩ = some (.func (.func 62) #[] #[]))) (by kernel_rfl) hd (fun hHeld => ?_)
  refine wpAnyH_take (i := 0) (v := ?_) rfl (by kernel_rfl) (by kernel_rfl) (by kernel_rfl) (fun _ _ _ h => h) (Or.inl ⟨by rfl, ?_⟩) hHeld ?_
  rotate_left
  · intro W' hSw; (try dsimp only at hSw); go_simp; try (with_reducible rfl)
  (try simp only [Act.put, List.getElem_toArray, List.getElem_cons_zero, List.setIfInBounds_toArray, List.set_cons_zero, List.set_cons_succ])
  refine wpAnyH_take (i := 1) (v := ?_) rfl (by kernel_rfl) (by kernel_rfl) (by kernel_rfl) (fun _ _ _ h => h) (Or.inl ⟨by rfl, ?_⟩) hHeld ?_
  rotate_left
  · intro W' hSw; (try dsimp only at hSw); go_simp; try (with_reducible rfl)
  (try simp only [Act.put, List.getElem_toArray, List.getElem_cons_zero, List.getElem_cons_succ, List.setIfInBounds_toArray, List.set_cons_zero, List.set_cons_succ])
  refine wpAnyH_take (i := 2) (v := ?_) rfl (by kernel_rfl) (by kernel_rfl) (by kernel_rfl) (fun _ _ _ h => h) (Or.inl ⟨by rfl, ?_⟩) hHeld ?_
  rotate_left
  · intro W' hSw; (try dsimp only at hSw); go_simp; try (with_reducible rfl)
  (try simp only [Act.put, List.getElem_toArray, List.getElem_cons_zero, List.getElem_cons_succ, List.setIfInBounds_toArray, List.set_cons_zero, List.set_cons_succ])
  refine wpAnyH_take (i := 3) (v := ?_) rfl (by kernel_rfl) (by kernel_rfl) (by kernel_rfl) (fun _ _ _ h => h) (Or.inl ⟨by rfl, ?_⟩) hHeld ?_
  rotate_left
  · intro W' hSw; (try dsimp only at hSw); go_simp; try (with_reducible rfl)
  (try simp only [Act.put, List.getElem_toArray, List.getElem_cons_zero, List.getElem_cons_succ, List.setIfInBounds_toArray, List.set_cons_zero, List.set_cons_succ])
  refine wpAnyH_take (i := 4) (v := ?_) rfl (by kernel_rfl) (by kernel_rfl) (by kernel_rfl) (fun _ _ _ h => h) (Or.inl ⟨by rfl, ?_⟩) hHeld ?_
  rotate_left
  · intro W' hSw; (try dsimp only at hSw); go_simp; try (with_reducible rfl)
  (try simp only [Act.put, List.getElem_toArray, List.getElem_cons_zero, List.getElem_cons_succ, List.setIfInBounds_toArray, List.set_cons_zero, List.set_cons_succ])
  refine wpAnyH_take (i := 5) (v := ?_) rfl (by kernel_rfl) (by kernel_rfl) (by kernel_rfl) (fun _ _ _ h => h) (Or.inl ⟨by rfl, ?_⟩) hHeld ?_
  rotate_left
  · intro W' hSw; (try dsimp only at hSw); go_simp; try (with_reducible rfl)
  (try simp only [Act.put, List.getElem_toArray, List.getElem_cons_zero, List.getElem_cons_succ, List.setIfInBounds_toArray, List.set_cons_zero, List.set_cons_succ])
  refine wpAnyH_take (i := 6) (v := ?_) rfl (by kernel_rfl) (by kernel_rfl) (by kernel_rfl) (fun _ _ _ h => h) (Or.inl ⟨by rfl, ?_⟩) hHeld ?_
  rotate_left
  · intro W' hSw; (try dsimp only at hSw); go_simp; try (with_reducible rfl)
  (try simp only [Act.put, List.getElem_toArray, List.getElem_cons_zero, List.getElem_cons_succ, List.setIfInBounds_toArray, List.set_cons_zero, List.set_cons_succ])
  refine wpAnyH_ready (rs := [7]) (by kernel_rfl) (by simp) ?_
  refine AllReadyH.cons rfl (fun K hK => ?_) AllReadyH.nil
  go_simp
  refine Calls.mono (HC.out _ _ _) ?_
  rintro r u1 ⟨rfl, rfl⟩
  refine hK.out _ _ hHeld (fun hHeld2 => ?_)
  clear hK
  (try simp only [Act.put, List.getElem_toArray, List.getElem_cons_zero, List.getElem_cons_succ, List.setIfInBounds_toArray, List.set_cons_zero, List.set_cons_succ])
  refine wpAnyH_take (i := 8) (v := ?_) rfl (by kernel_rfl) (by kernel_rfl) (by kernel_rfl) (fun _ _ _ h => h) (Or.inl ⟨by rfl, ?_⟩) hHeld2 ?_
  rotate_left
  · intro W' hSw; (try dsimp only at hSw); go_simp; try (with_reducible rfl)
  (try simp only [Act.put, List.getElem_toArray, List.getElem_cons_zero, List.getElem_cons_succ, List.setIfInBounds_toArray, List.set_cons_zero, List.set_cons_succ])
  refine wpAnyH_take (i := 9) (v := ?_) rfl (by kernel_rfl) (by kernel_rfl) (by kernel_rfl) (fun _ _ _ h => h) (Or.inl ⟨by rfl, ?_⟩) hHeld2 ?_
  rotate_left
  · intro W' hSw; (try dsimp only at hSw); go_simp; try (with_reducible rfl)
  (try simp only [Act.put, List.getElem_toArray, List.getElem_cons_zero, List.getElem_cons_succ, List.setIfInBounds_toArray, List.set_cons_zero, List.set_cons_succ])
  refine wpAnyH_done (by kernel_rfl) ?_ _
  go_wp2_with fail
  go_ret2
  exact ⟨rfl, HB.out.drew⟩
set_option maxRecDepth 100000 in
set_option maxHeartbeats 8000000 in
theorem namesFW_any (xs : List Fn) (A : Option Addr) (n c B : Nat) (w : World) (hn : xs.length = n) (h16 : n * 16 ≤ 140737488355000) (hB : w.cell? ⟨B, 0, none⟩ = some (.func (.func 62) #[] #[])) (hS : Funcs w (.slice A n c) xs) :
    Calls Try.prog 97 #[.slice A n c, .func (.func 98) #[] #[.pointer (some ⟨B, 0, none⟩)]] w (NewOwn (selF wantP xs) w) := by
  have HS := Lib.hid hS
  have HN := Lib.hid (show xs.length ≤ n ∧ n ≤ xs.length by omega)
  have H16 := Lib.hid h16
  have hBl := World.block_lt_of_cell? w _ hB
  have HBC := Lib.hid (fun (U : World) (hU : Below w.heap.size w U) => (cellNext hBl hU 0).trans hB)
  have n1 : (n : Int) ≤ 9223372036854775807 := by omega
  obtain ⟨i0, qi, qz0, qz1, qz2⟩ := str_inf
  have HII := Lib.hid (And.intro qi (And.intro qz0 (And.intro qz1 qz2)))
  clear hS hn h16 hB hBl qi qz0 qz1 qz2
  go_enter Try.func97, Try.ntmps97
  go_wp2_with fail
  go_loopw [5, 12] (fun vv iv wr => ∃ i : Nat, i ≤ n ∧ iv = .int .i64 i ∧ OwnsN wr w.heap.size vv (selF wantP (xs.take i)) ∧ Below w.heap.size w wr) (fun _ iv _ => n - (intOf iv).toNat)
  case atStart => exact ⟨0, Nat.zero_le _, rfl, ⟨rfl, .inl ⟨rfl, rfl⟩⟩, Below.refl _ _⟩
  case round =>
    obtain ⟨i, hi, rfl, ho, hb⟩ := hrel
    have HL16 := Lib.hid (show ((selF wantP (xs.take i)).length + 1) * 16 ≤ 140737488355016 by
      have h1 := selF_len wantP (xs.take i)
      rw [List.length_take] at h1
      have := HN.out
      have := H16.out
      omega)
    have HX := Lib.hid (fun (h : i < xs.length) => selF_take (p := wantP) h)
    have HAL0 := Lib.hid (show i = n → selF wantP (xs.take i) = selF wantP xs from fun h => by rw [List.take_of_length_le (by have := HN.out; omega)])
    obtain ⟨L, hL⟩ : ∃ L, selF wantP (xs.take i) = L := ⟨_, rfl⟩
    rw [hL] at ho HL16 HAL0
    simp only [hL] at HX
    have HO := Lib.hid ho
    have HB := Lib.hid hb
    obtain ⟨A0, z0, hv0⟩ := ho.form
    clear hb hL
    by_cases hlt : i < n
    · have hm : i < xs.length := by have := HN.out; omega
      obtain ⟨b2, off2, hA2, hbl2, e2⟩ := RowOf.at_ (HS.out.next HB.out) hm
      subst hA2
      have HN1 := Lib.hid (HX.out hm)
      obtain ⟨x, hx⟩ : ∃ x, xs[i] = x := ⟨_, rfl⟩
      rw [hx] at e2 HN1
      obtain ⟨g0, g1, g2, A3, z3, g3, -⟩ := e2
      obtain ⟨x0, h0⟩ : ∃ z, x.s = z := ⟨_, rfl⟩
      obtain ⟨x1, h1⟩ : ∃ z, x.b = z := ⟨_, rfl⟩
      obtain ⟨x2, h2⟩ : ∃ z, x.p = z := ⟨_, rfl⟩
      obtain ⟨x3, h3⟩ : ∃ z, x.l.length = z := ⟨_, rfl⟩
      rw [h0] at g0 HN1
      rw [h1] at g1 HN1
      rw [h2] at g2
      rw [h3] at g3 HN1
      clear h0 h1 h2 h3
      obtain ⟨nL, hnL⟩ : ∃ n, L.length = n := ⟨_, rfl⟩
      rw [hnL] at hv0 HL16
      subst hv0
      have HNQ := Lib.hid hnL
      have HT := Lib.hid (fun (U : World) (hU : Below w.heap.size w U) => told1W_any x0 x1 x2 A3 x3 z3 B U (HBC.out U hU))
      obtain ⟨Q, hQ⟩ : ∃ Q, wantP (decide (0 < x3)) x1 = Q := ⟨_, rfl⟩
      rw [hQ] at HT HN1
      have r0 : (0 : Int) ≤ (i : Int) := Int.natCast_nonneg _
      have r1 : (i : Int) < (n : Int) := by omega
      have HLT := Lib.hid hlt
      have HBX0 := Lib.hid (balloc (Below.refl _ wr) (.cells #[.string x0, .int .i64 x1, .int .i64 x2, .slice A3 x3 z3] 78))
      have HB1 := Lib.hid (bthen HB.out HBX0.out)
      clear hx hm hlt hnL ho hbl2 hQ
      go_wp2_with fail
      refine (HT.out _ HB1.out).mono ?_
      rintro r w3 ⟨rfl, hb3⟩
      have HB3 := Lib.hid (bthen HB1.out hb3)
      have HO3 := Lib.hid (ownsN_below HO.out (bthen HBX0.out hb3))
      have HSZ3 := Lib.hid HB3.out.size
      clear hb3 g0 g1 g2 g3
      cases Q with
      | false =>
        have HV := Lib.hid (show selF wantP (xs.take (i + 1)) = L by rw [HN1.out]; rfl)
        go_wp2_with fail
        go_roundw
        case rel => exact ⟨i + 1, HLT.out, by go_num, by rw [HV.out]; exact HO3.out, HB3.out⟩
        case measure => have := HLT.out; simp [intOf]; omega
      | true =>
        have HV := Lib.hid (show selF wantP (xs.take (i + 1)) = L ++ [x0] by rw [HN1.out]; rfl)
        have HAL := Lib.hid (ownsN_kept HO3.out (World.grownBy_alloc w3 (.cells #[.string x0] 9) none) (by by_cases h : (Value.slice A0 nL z0).ownBlock = none; exact .inl h; exact .inr h))
        have HOWN := Lib.hid (show (w3.alloc (.cells #[.string x0] 9)).ownsRow w.heap.size 9 1 (.slice A0 nL z0) nL (strRow L) by have := HAL.out; unfold OwnsN at this; rwa [HNQ.out] at this)
        have HONE := Lib.hid (show ∀ u ∈ [Value.string x0], u.oneCell' = true from fun u hu => by obtain rfl : u = Value.string x0 := (by simpa using hu); rfl)
        have HM63 := Lib.hid (show nL + 1 ≤ maxLen by unfold maxLen; have := HL16.out; omega)
        have HM16 := Lib.hid (show (nL + 1) * 16 ≤ 140737488355328 by have := HL16.out; omega)
        have HBAS := Lib.hid (show w.heap.size ≤ (w3.alloc (.cells #[.string x0] 9)).heap.size by have := HSZ3.out; simp; omega)
        have HBX := Lib.hid (balloc (Below.refl _ w3) (.cells #[.string x0] 9))
        go_wp2_with (at_builtin; go_loud (refine wpList_append_own_at _ rfl _ _ 49 rfl w.heap.size 9 i0 (.string ⟨#[]⟩) 1 16 Try.underlying49 HII.out.1 HII.out.2.1 HII.out.2.2.1 HII.out.2.2.2 rfl (by omega) (.slice A0 nL z0) nL (strRow L) rfl HOWN.out ⟨w3.heap.size, 0, none⟩ 1 1 [.string x0] rfl rfl (cell_one_new _ _ _) HONE.out HM63.out HM16.out HBAS.out ?_; intro v' w4 hown hgrow hnil hat))
        have HG := Lib.hid hgrow
        have HOW := Lib.hid hown
        clear hgrow hown hnil hat
        go_wp2_with fail
        have HBB := Lib.hid (show Below w.heap.size w w4 from below_grown HG.out (bthen HB3.out HBX.out).size (fun r e => (HO3.out.block _ e).1) |> fun g => (bthen HB3.out HBX.out).trans g)
        go_roundw
        case rel =>
          refine ⟨i + 1, HLT.out, by go_num, ?_, HBB.out⟩
          rw [HV.out]
          unfold OwnsN
          rw [List.length_append, HNQ.out]
          simpa [strRow] using HOW.out
        case measure => have := HLT.out; simp [intOf]; omega
    · have hd : decide ((i : Int) < (n : Int)) = false := by simp; omega
      have HV := Lib.hid (HAL0.out (by omega))
      subst hv0
      go_wp2_with fail
      go_ret
      exact ⟨_, rfl, by rw [← HV.out]; exact HO.out, HB.out⟩
set_option maxRecDepth 100000 in
set_option maxHeartbeats 8000000 in
theorem namesGW_any (xs : List Gl) (A : Option Addr) (n c B : Nat) (w : World) (hn : xs.length = n) (h16 : n * 16 ≤ 140737488355000) (hB : w.cell? ⟨B, 0, none⟩ = some (.func (.func 62) #[] #[])) (hS : Globs w (.slice A n c) xs) :
    Calls Try.prog 99 #[.slice A n c, .func (.func 100) #[] #[.pointer (some ⟨B, 0, none⟩)]] w (NewOwn (selG wantP xs) w) := by
  have HS := Lib.hid hS
  have HN := Lib.hid (show xs.length ≤ n ∧ n ≤ xs.length by omega)
  have H16 := Lib.hid h16
  have hBl := World.block_lt_of_cell? w _ hB
  have HBC := Lib.hid (fun (U : World) (hU : Below w.heap.size w U) => (cellNext hBl hU 0).trans hB)
  have n1 : (n : Int) ≤ 9223372036854775807 := by omega
  obtain ⟨i0, qi, qz0, qz1, qz2⟩ := str_inf
  have HII := Lib.hid (And.intro qi (And.intro qz0 (And.intro qz1 qz2)))
  clear hS hn h16 hB hBl qi qz0 qz1 qz2
  go_enter Try.func99, Try.ntmps99
  go_wp2_with fail
  go_loopw [5, 12] (fun vv iv wr => ∃ i : Nat, i ≤ n ∧ iv = .int .i64 i ∧ OwnsN wr w.heap.size vv (selG wantP (xs.take i)) ∧ Below w.heap.size w wr) (fun _ iv _ => n - (intOf iv).toNat)
  case atStart => exact ⟨0, Nat.zero_le _, rfl, ⟨rfl, .inl ⟨rfl, rfl⟩⟩, Below.refl _ _⟩
  case round =>
    obtain ⟨i, hi, rfl, ho, hb⟩ := hrel
    have HL16 := Lib.hid (show ((selG wantP (xs.take i)).length + 1) * 16 ≤ 140737488355016 by
      have h1 := selG_len wantP (xs.take i)
      rw [List.length_take] at h1
      have := HN.out
      have := H16.out
      omega)
    have HX := Lib.hid (fun (h : i < xs.length) => selG_take (p := wantP) h)
    have HAL0 := Lib.hid (show i = n → selG wantP (xs.take i) = selG wantP xs from fun h => by rw [List.take_of_length_le (by have := HN.out; omega)])
    obtain ⟨L, hL⟩ : ∃ L, selG wantP (xs.take i) = L := ⟨_, rfl⟩
    rw [hL] at ho HL16 HAL0
    simp only [hL] at HX
    have HO := Lib.hid ho
    have HB := Lib.hid hb
    obtain ⟨A0, z0, hv0⟩ := ho.form
    clear hb hL
    by_cases hlt : i < n
    · have hm : i < xs.length := by have := HN.out; omega
      obtain ⟨b2, off2, hA2, hbl2, e2⟩ := RowOf.at_ (HS.out.next HB.out) hm
      subst hA2
      have HN1 := Lib.hid (HX.out hm)
      obtain ⟨x, hx⟩ : ∃ x, xs[i] = x := ⟨_, rfl⟩
      rw [hx] at e2 HN1
      obtain ⟨g0, g1, g2, g3⟩ := e2
      obtain ⟨x0, h0⟩ : ∃ z, x.s = z := ⟨_, rfl⟩
      obtain ⟨x1, h1⟩ : ∃ z, x.b = z := ⟨_, rfl⟩
      obtain ⟨x2, h2⟩ : ∃ z, x.h = z := ⟨_, rfl⟩
      obtain ⟨x3, h3⟩ : ∃ z, x.i = z := ⟨_, rfl⟩
      rw [h0] at g0 HN1
      rw [h1] at g1 HN1
      rw [h2] at g2 HN1
      rw [h3] at g3
      clear h0 h1 h2 h3
      obtain ⟨nL, hnL⟩ : ∃ n, L.length = n := ⟨_, rfl⟩
      rw [hnL] at hv0 HL16
      subst hv0
      have HNQ := Lib.hid hnL
      have HT := Lib.hid (fun (U : World) (hU : Below w.heap.size w U) => told2W_any x0 x1 x3 x2 B U (HBC.out U hU))
      obtain ⟨Q, hQ⟩ : ∃ Q, wantP x2 x1 = Q := ⟨_, rfl⟩
      rw [hQ] at HT HN1
      have r0 : (0 : Int) ≤ (i : Int) := Int.natCast_nonneg _
      have r1 : (i : Int) < (n : Int) := by omega
      have HLT := Lib.hid hlt
      have HBX0 := Lib.hid (balloc (Below.refl _ wr) (.cells #[.string x0, .int .i64 x1, .bool x2, .int .u64 x3] 80))
      have HB1 := Lib.hid (bthen HB.out HBX0.out)
      clear hx hm hlt hnL ho hbl2 hQ
      go_wp2_with fail
      refine (HT.out _ HB1.out).mono ?_
      rintro r w3 ⟨rfl, hb3⟩
      have HB3 := Lib.hid (bthen HB1.out hb3)
      have HO3 := Lib.hid (ownsN_below HO.out (bthen HBX0.out hb3))
      have HSZ3 := Lib.hid HB3.out.size
      clear hb3 g0 g1 g2 g3
      cases Q with
      | false =>
        have HV := Lib.hid (show selG wantP (xs.take (i + 1)) = L by rw [HN1.out]; rfl)
        go_wp2_with fail
        go_roundw
        case rel => exact ⟨i + 1, HLT.out, by go_num, by rw [HV.out]; exact HO3.out, HB3.out⟩
        case measure => have := HLT.out; simp [intOf]; omega
      | true =>
        have HV := Lib.hid (show selG wantP (xs.take (i + 1)) = L ++ [x0] by rw [HN1.out]; rfl)
        have HAL := Lib.hid (ownsN_kept HO3.out (World.grownBy_alloc w3 (.cells #[.string x0] 9) none) (by by_cases h : (Value.slice A0 nL z0).ownBlock = none; exact .inl h; exact .inr h))
        have HOWN := Lib.hid (show (w3.alloc (.cells #[.string x0] 9)).ownsRow w.heap.size 9 1 (.slice A0 nL z0) nL (strRow L) by have := HAL.out; unfold OwnsN at this; rwa [HNQ.out] at this)
        have HONE := Lib.hid (show ∀ u ∈ [Value.string x0], u.oneCell' = true from fun u hu => by obtain rfl : u = Value.string x0 := (by simpa using hu); rfl)
        have HM63 := Lib.hid (show nL + 1 ≤ maxLen by unfold maxLen; have := HL16.out; omega)
        have HM16 := Lib.hid (show (nL + 1) * 16 ≤ 140737488355328 by have := HL16.out; omega)
        have HBAS := Lib.hid (show w.heap.size ≤ (w3.alloc (.cells #[.string x0] 9)).heap.size by have := HSZ3.out; simp; omega)
        have HBX := Lib.hid (balloc (Below.refl _ w3) (.cells #[.string x0] 9))
        go_wp2_with (at_builtin; go_loud (refine wpList_append_own_at _ rfl _ _ 49 rfl w.heap.size 9 i0 (.string ⟨#[]⟩) 1 16 Try.underlying49 HII.out.1 HII.out.2.1 HII.out.2.2.1 HII.out.2.2.2 rfl (by omega) (.slice A0 nL z0) nL (strRow L) rfl HOWN.out ⟨w3.heap.size, 0, none⟩ 1 1 [.string x0] rfl rfl (cell_one_new _ _ _) HONE.out HM63.out HM16.out HBAS.out ?_; intro v' w4 hown hgrow hnil hat))
        have HG := Lib.hid hgrow
        have HOW := Lib.hid hown
        clear hgrow hown hnil hat
        go_wp2_with fail
        have HBB := Lib.hid (show Below w.heap.size w w4 from below_grown HG.out (bthen HB3.out HBX.out).size (fun r e => (HO3.out.block _ e).1) |> fun g => (bthen HB3.out HBX.out).trans g)
        go_roundw
        case rel =>
          refine ⟨i + 1, HLT.out, by go_num, ?_, HBB.out⟩
          rw [HV.out]
          unfold OwnsN
          rw [List.length_append, HNQ.out]
          simpa [strRow] using HOW.out
        case measure => have := HLT.out; simp [intOf]; omega
    · have hd : decide ((i : Int) < (n : Int)) = false := by simp; omega
      have HV := Lib.hid (HAL0.out (by omega))
      subst hv0
      go_wp2_with fail
      go_ret
      exact ⟨_, rfl, by rw [← HV.out]; exact HO.out, HB.out⟩
end Go.Proofs.Ytcfniagmnkngfaa
