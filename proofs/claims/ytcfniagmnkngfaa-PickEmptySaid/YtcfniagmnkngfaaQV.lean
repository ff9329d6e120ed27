/- PickEmpty: an archive without modules changes nothing: the walk. -/
import Derived.Test.YtcfniagmnkngfaaQS
import Derived.Test.YtcfniagmnkngfaaQ8
import Derived.Test.YtcfniagmnkngfaaQX
namespace Go.Proofs.Ytcfniagmnkngfaa
open Go.RowKit

theorem fl_info : (Try.prog.info? 55).map (fun i => (i.zero, i.size, i.bytes)) = some (some (.agg #[.bool false, .slice none 0 0]), 2, 32) := by kernel_rfl
def FlYs (S : World → Prop) (ys : List Value) (j : Nat) (x : Fl) : Prop :=
  ys[j * 2]? = some (.bool x.a) ∧ ∃ A c, ys[j * 2 + 1]? = some (.slice A x.m.length c) ∧ ∀ W, S W → Mods W (.slice A x.m.length c) x.m
/-- a row of files of the call's own -/
def OutF (w : World) (v : Value) (r : List Fl) (W : World) : Prop := ∃ ys, W.ownsRow w.heap.size 55 2 v r.length ys ∧ ∀ (j : Nat) (hj : j < r.length), FlYs (Below w.heap.size w) ys j r[j]
theorem OutF.below {w : World} {v : Value} {r : List Fl} {W W' : World} (h : OutF w v r W) (hb : Below W.heap.size W W') : OutF w v r W' := by
  obtain ⟨ys, ho, h⟩ := h
  exact ⟨ys, ownsRow_atv ho (fun g hg => hb.block g (ho.lt g hg).2), h⟩
theorem OutF.slice {w : World} {v : Value} {r : List Fl} {W : World} (h : OutF w v r W) : ∃ A c, v = .slice A r.length c := by
  obtain ⟨ys, ho, -⟩ := h
  exact ownsRow_slice ho
theorem OutF.files {w : World} {v : Value} {r : List Fl} {W : World} (h : OutF w v r W) (hb : Below w.heap.size w W) : Files W v r := by
  obtain ⟨ys, ho, h⟩ := h
  by_cases hl : 0 < r.length
  · obtain ⟨g, cap, e, -, hlt⟩ := ho.form hl
    subst e
    refine .inr ⟨hl, g, 0, cap, rfl, hlt, fun i hi => ?_⟩
    obtain ⟨h0, A, c, h1, h2⟩ := h i hi
    have q : ∀ c, c < 2 → W.cell? ⟨g, 0 + i * 2 + c, none⟩ = ys[i * 2 + c]? := fun c hc => by rw [Nat.zero_add]; exact ho.cellAt _ (by omega)
    exact ⟨(q 0 (by omega)).trans h0, A, c, (q 1 (by omega)).trans h1, h2 W hb⟩
  · have hl0 : r = [] := by cases r <;> simp_all
    subst hl0
    rcases ho.2 with ⟨e, _⟩ | ⟨g, cap, cur, e, _⟩
    · exact .inl ⟨rfl, .inl e⟩
    · exact .inl ⟨rfl, .inr ⟨_, _, e⟩⟩
/-- files that lie ready to be appended -/
def SrcF (w W : World) (u : Value) (k : List Fl) : Prop :=
  (k = [] ∧ (u = .slice none 0 0 ∨ ∃ a cap, u = .slice (some a) 0 cap)) ∨ (0 < k.length ∧ ∃ b off cap zs, u = .slice (some ⟨b, off, none⟩) k.length cap ∧ zs.length = k.length * 2 ∧ (∀ j x, zs[j]? = some x → W.cell? ⟨b, off + j, none⟩ = some x) ∧ (∀ x ∈ zs, Value.oneCell' x = true) ∧
    ∀ (j : Nat) (hj : j < k.length), FlYs (Below w.heap.size w) zs j k[j])
theorem srcF_of {w W : World} {u : Value} {k : List Fl} (h : Files w u k) (hb : Below w.heap.size w W) : SrcF w W u k := by
  rcases h with h | ⟨h0, b, off, cap, rfl, hbl, hp⟩
  · exact .inl h
  · have one : OneCells 2 FlIn := by
      rintro W b off x j ⟨h0, A, c, h1, -⟩ hj
      match j, hj with
      | 0, _ => exact ⟨_, h0, rfl⟩
      | 1, _ => exact ⟨_, h1, rfl⟩
    obtain ⟨zs, z1, z2, z3⟩ := cells_of one (by omega) hp
    refine .inr ⟨h0, b, off, cap, zs, rfl, z1, fun j x hj => ?_, z3, fun j hj => ?_⟩
    · have hj2 : j < k.length * 2 := by have := (List.getElem?_eq_some_iff.1 hj).1; omega
      rw [cellNext hbl hb, ← z2 j hj2]
      exact hj
    · obtain ⟨g0, A, c, g1, g2⟩ := hp j hj
      have q : ∀ c, c < 2 → zs[j * 2 + c]? = w.cell? ⟨b, off + j * 2 + c, none⟩ := fun c hc => by rw [z2 _ (by omega), Nat.add_assoc]
      exact ⟨(q 0 (by omega)).trans g0, A, c, (q 1 (by omega)).trans g1, fun U hU => g2.next hU⟩
theorem wpList_append_fls {W : World} {ops : Array Oper} {rest : List Oper} {o : Oper} {a : Act} {Q : Exit → Act → World → Prop} (hgd : o.guard = none) (s x : Operand)
    (ho : o.op = .call { callee := .builtin .append, args := #[s, x], argTypes := #[41, 41] }) (w : World) (v : Value) (r : List Fl) (u : Value) (k : List Fl) (hs : a.eval s = v) (hx : a.eval x = u)
    (hO : OutF w v r W) (hF : SrcF w W u k) (hb : Below w.heap.size w W) (hn : r.length + k.length ≤ 1000)
    (h : ∀ v' w', OutF w v' (r ++ k) w' → Below w.heap.size w w' → wpList Try.prog ops Q rest (a.put o.dst v') w') : wpList Try.prog ops Q (o :: rest) a W := by
  obtain ⟨i0, hi0, hz0, hz1, hz2⟩ := info_parts fl_info
  obtain ⟨ys, ho1, hys⟩ := hO
  have hl : ys.length = r.length * 2 := ho1.1
  have low : ∀ w', W.grownBy w' v.ownBlock → Below w.heap.size w w' := fun w' hg => hb.grown hg hb.size (fun q hq => (ho1.lt q hq).1)
  rcases hF with ⟨rfl, rfl | ⟨A, cap, rfl⟩⟩ | ⟨h0, b, off, cap, zs, rfl, z1, z2, z3, z4⟩
  · exact wpList_append_own_none hgd s x 41 ho w.heap.size 55 i0 2 Try.underlying41 hi0 v r.length ys hs ho1 hx (h v W (by rw [List.append_nil]; exact ⟨ys, ho1, hys⟩) hb)
  · exact wpList_append_own W hgd s x 41 ho w.heap.size 55 i0 _ 2 32 Try.underlying41 hi0 hz0 hz1 hz2 rfl (by decide) v r.length ys hs ho1 A 0 cap [] hx rfl (fun j u hj => by simp at hj) (fun u hu => by cases hu) (by unfold maxLen; omega) (by omega) hb.size (fun v' w' h1 h2 _ => h v' w' (by rw [List.append_nil]; exact ⟨ys, by simpa using h1, hys⟩) (low w' h2))
  · refine wpList_append_own W hgd s x 41 ho w.heap.size 55 i0 _ 2 32 Try.underlying41 hi0 hz0 hz1 hz2 rfl (by decide) v r.length ys hs ho1 ⟨b, off, none⟩ k.length cap zs hx z1 (fun j u hj => by rw [int_add]; exact z2 j u hj) z3 (by unfold maxLen; omega) (by omega) hb.size (fun v' w' h1 h2 _ => h v' w' ⟨ys ++ zs, by rw [List.length_append]; exact h1, fun j hj => ?_⟩ (low w' h2))
    by_cases hjl : j < r.length
    · rw [List.getElem_append_left hjl]
      obtain ⟨e0, A', c', e1, e2⟩ := hys j hjl
      exact ⟨by rw [List.getElem?_append_left (by omega)]; exact e0, A', c', by rw [List.getElem?_append_left (by omega)]; exact e1, e2⟩
    · rw [List.length_append] at hj
      rw [List.getElem_append_right (by omega)]
      obtain ⟨e0, A', c', e1, e2⟩ := z4 (j - r.length) (by omega)
      have q : j * 2 - ys.length = (j - r.length) * 2 := by omega
      exact ⟨by rw [List.getElem?_append_right (by omega), q]; exact e0, A', c', by rw [List.getElem?_append_right (by omega), show j * 2 + 1 - ys.length = (j - r.length) * 2 + 1 by omega]; exact e1, e2⟩
theorem files_take {W : World} {A : Option Addr} {n c i : Nat} {l : List Fl} (h : Files W (.slice A n c) l) (hi : i ≤ n) : Files W (.slice A i c) (l.take i) := by
  have hn : l.length = n := RowOf.len h
  by_cases h0 : 0 < i
  · rcases h with ⟨rfl, -⟩ | ⟨_, b, off, cap, e, h1, h2⟩
    · simp at hn; omega
    · have e2 := Value.slice.inj e
      obtain ⟨rfl, -, rfl⟩ := e2
      refine .inr ⟨by rw [List.length_take]; omega, b, off, c, by rw [List.length_take, show min i l.length = i by omega], h1, fun j hj => ?_⟩
      rw [List.length_take] at hj
      rw [List.getElem_take]
      exact h2 j (by omega)
  · have hi0 : i = 0 := by omega
    subst hi0
    rcases h with ⟨rfl, h | ⟨a, cap, h⟩⟩ | ⟨_, b, off, cap, e, h1, h2⟩
    · have e2 := Value.slice.inj h
      obtain ⟨rfl, rfl, rfl⟩ := e2
      exact .inl ⟨rfl, .inl rfl⟩
    · have e2 := Value.slice.inj h
      obtain ⟨rfl, rfl, rfl⟩ := e2
      exact .inl ⟨rfl, .inr ⟨_, _, rfl⟩⟩
    · have e2 := Value.slice.inj e
      obtain ⟨rfl, -, rfl⟩ := e2
      exact .inl ⟨rfl, .inr ⟨_, _, rfl⟩⟩
theorem files_drop {W : World} {A : Option Addr} {n c i : Nat} {l : List Fl} (h : Files W (.slice A n c) l) (hi : i ≤ n) (hc : n ≤ c) : Files W (.slice (if c = i then A else Option.map (fun x => x.add (i * 2)) A) (n - i) (c - i)) (l.drop i) := by
  have hn : l.length = n := RowOf.len h
  by_cases h0 : i < n
  · rw [if_neg (by omega)]
    rcases h with ⟨rfl, -⟩ | ⟨_, b, off, cap, e, h1, h2⟩
    · simp at hn; omega
    · have e2 := Value.slice.inj e
      obtain ⟨rfl, -, rfl⟩ := e2
      refine .inr ⟨by rw [List.length_drop]; omega, b, off + i * 2, c - i, ?_, h1, fun j hj => ?_⟩
      · rw [List.length_drop, hn, Option.map_some, int_add]
      rw [List.length_drop] at hj
      rw [List.getElem_drop]
      have q := h2 (i + j) (by omega)
      rwa [show off + (i + j) * 2 = off + i * 2 + j * 2 by omega] at q
  · have hi0 : i = n := by omega
    subst hi0
    have hd : l.drop i = [] := by rw [← hn]; exact List.drop_length
    rw [hd, Nat.sub_self]
    refine .inl ⟨rfl, ?_⟩
    have hA : A = none → c = 0 := by
      intro hA
      rcases h with ⟨_, h | ⟨a, cap, h⟩⟩ | ⟨_, b, off, cap, e, h1, h2⟩
      · exact (Value.slice.inj h).2.2
      · exact absurd (hA.symm.trans (Value.slice.inj h).1) (by simp)
      · exact absurd (hA.symm.trans (Value.slice.inj e).1) (by simp)
    cases A with
    | none =>
      have e := hA rfl
      subst e
      left
      split <;> simp
    | some a =>
      right
      by_cases hci : c = i
      · rw [if_pos hci]; exact ⟨_, _, rfl⟩
      · rw [if_neg hci]; exact ⟨_, _, rfl⟩
theorem flat_ins (l : List Fl) (n : Nat) : flat (l.take n ++ [⟨true, []⟩] ++ l.drop n) = flat l := by
  unfold flat
  rw [List.map_append, List.map_append, List.flatten_append, List.flatten_append]
  simp only [List.map_cons, List.map_nil, List.flatten_cons, List.flatten_nil, List.append_nil]
  rw [← List.flatten_append, ← List.map_append, List.take_append_drop]
theorem pickE_ins {l : List Fl} {n : Nat} (hl : l.length ≤ 7) (hn : n ≤ l.length) : pickE (l.take n ++ [⟨true, []⟩] ++ l.drop n) = pickE l := by
  have e1 : sumM (l.take n ++ [⟨true, []⟩] ++ l.drop n) = sumM l := by rw [← flat_length, flat_ins, flat_length]
  have e2 : oneB (l.take n ++ [⟨true, []⟩] ++ l.drop n) = oneB l := by
    conv => rhs; rw [← List.take_append_drop n l]
    unfold oneB
    rw [List.all_append, List.all_append, List.all_append]
    simp
  have e3 : modsL (l.take n ++ [⟨true, []⟩] ++ l.drop n) = modsL l := by
    conv => rhs; rw [← List.take_append_drop n l]
    unfold modsL
    rw [List.map_append, List.map_append, List.flatten_append, List.flatten_append, List.map_append, List.flatten_append]
    simp
  have e4 : (l.take n ++ [(⟨true, []⟩ : Fl)] ++ l.drop n).length = l.length + 1 := by simp; omega
  unfold pickE
  rw [e1, e2, e3, e4]
  congr 1
  simp only [eq_iff_iff]
  constructor
  · rintro (h | h)
    · omega
    · exact .inr h
  · rintro (h | h)
    · omega
    · exact .inr h
set_option maxRecDepth 100000 in
set_option maxHeartbeats 8000000 in
theorem empty_all (l : List Fl) (A : Option Addr) (c : Nat) (x : Int) (w : World) (hok : ∀ f ∈ l, FlW f) (h9 : l.length ≤ 9223372036854775807) (hc : l.length ≤ c) (hS : Files w (.slice A l.length c) l) :
    Calls Try.prog 8 #[.slice A l.length c, .int .i64 x] w fun e w' => e = .returned (.bool true) ∧ Below w.heap.size w w' := by
  have HS := Lib.hid hS
  have HT := Lib.hid (fun (U : World) (hU : Below w.heap.size w U) => pickTake_any l A l.length c U rfl h9 (fun f hf => (hok f hf).1) (hS.next hU))
  have HOK := Lib.hid (fun f hf => (hok f hf).1)
  obtain ⟨n, hn⟩ : ∃ n, l.length = n := ⟨_, rfl⟩
  rw [hn] at HT HS hc ⊢
  have HNQ := Lib.hid hn
  have n1 : (n : Int) ≤ 9223372036854775807 := by omega
  have n0 : (0 : Int) ≤ (n : Int) := Int.natCast_nonneg _
  have HC := Lib.hid hc
  clear hok h9 hS hn hc
  go_enter Try.func8, Try.ntmps8
  go_wp2_with fail
  refine (pshown_any w).mono ?_
  rintro r w1 ⟨rfl, hb1⟩
  have HB1 := Lib.hid hb1
  have HT1 := Lib.hid (HT.out w1 hb1)
  clear hb1 HT
  by_cases hx0 : x < 0
  · have t : decide (x < 0) = true := decide_eq_true hx0
    go_wp2_with fail
    go_ret
    exact ⟨rfl, HB1.out⟩
  have t : decide (x < 0) = false := decide_eq_false hx0
  by_cases hxn : (n : Int) < x
  · have t2 : decide ((n : Int) < x) = true := decide_eq_true hxn
    go_wp2_with fail
    go_ret
    exact ⟨rfl, HB1.out⟩
  have t2 : decide ((n : Int) < x) = false := decide_eq_false hxn
  by_cases h7 : 7 < n
  · have t3 : decide ((7 : Int) < (n : Int)) = true := decide_eq_true (by omega)
    have t3' : decide (7 < n) = true := decide_eq_true h7
    go_wp2_with fail
    go_ret
    exact ⟨rfl, HB1.out⟩
  have t3 : decide ((7 : Int) < (n : Int)) = false := decide_eq_false (by omega)
  have t3' : decide (7 < n) = false := decide_eq_false h7
  obtain ⟨N, rfl⟩ : ∃ N : Nat, x = N := ⟨x.toNat, by omega⟩
  have HNN := Lib.hid (show N ≤ n ∧ n ≤ 7 by omega)
  go_wp2_with fail
  refine HT1.out.mono ?_
  rintro r w2 ⟨hb2, hcase⟩
  have HB2 := Lib.hid (bthen HB1.out hb2)
  clear hb2 HT1 t t2 t3 t3' hx0 hxn h7
  obtain ⟨V, hV⟩ : ∃ V, pickE l = V := ⟨_, rfl⟩
  have HV := Lib.hid hV
  obtain ⟨rr, A2, c2, rfl, hm2, hok2, h16r, hgr⟩ : ∃ rr A2 c2, r = .returned (.tuple #[.slice A2 rr.length c2, .int .i64 V]) ∧ Mods w2 (.slice A2 rr.length c2) rr ∧ (∀ m ∈ rr, MdOk m) ∧ rr.length ≤ 16 ∧ ((V ≠ 0 ∧ rr = []) ∨ (V = 0 ∧ Taken (flat l) rr)) := by
    rcases hcase with ⟨hne, rfl⟩ | ⟨hg, rr, A2, c2, htk, rfl, hmods, -⟩
    · rw [hV] at hne ⊢
      exact ⟨[], none, 0, rfl, .inl ⟨rfl, .inl rfl⟩, fun m hm => by simp at hm, by simp, .inl ⟨hne, rfl⟩⟩
    · have hz : V = 0 := by rw [← hV]; exact good_zero hg
      subst hz
      exact ⟨rr, A2, c2, rfl, hmods, taken_mdOk hg htk, (taken_ok hg htk).2, .inr ⟨rfl, htk⟩⟩
  have HM2 := Lib.hid hm2
  have HGR := Lib.hid hgr
  have HOK2 := Lib.hid hok2
  have HLR := Lib.hid h16r
  obtain ⟨nr, hnr⟩ : ∃ z, rr.length = z := ⟨_, rfl⟩
  rw [hnr] at HM2 HLR ⊢
  have HNR := Lib.hid hnr
  clear hm2 hgr hok2 h16r hcase hnr hV
  have i0 : (0 : Int) ≤ (N : Int) := Int.natCast_nonneg _
  have i1 : (N : Int) ≤ (n : Int) := by have := HNN.out; omega
  have i2 : (N : Int) ≤ (c : Int) := by have := HNN.out; have := HC.out; omega
  have i2' : N ≤ c := by have := HNN.out; have := HC.out; omega
  have HO0 := Lib.hid (show OutF w2 (.slice (some ⟨w2.heap.size, 0, none⟩) 0 0) [] (w2.alloc (.cells #[] 55)) from ⟨[], ⟨rfl, .inr ⟨w2.heap.size, 0, #[], rfl, Nat.le_refl _, heap_alloc_new _ _, Nat.le_refl _, by unfold maxLen; omega, rfl, rfl⟩⟩, fun j hj => by simp at hj⟩)
  have HBA := Lib.hid (balloc (Below.refl w2.heap.size w2) (.cells #[] 55))
  have HS2 := Lib.hid (HS.out.next HB2.out)
  have HSA := Lib.hid (srcF_of (files_take HS2.out HNN.out.1) HBA.out)
  have HTL := Lib.hid (show (l.take N).length ≤ 7 by rw [List.length_take]; have := HNN.out; omega)
  have HSX := Lib.hid (fun (U : World) => (show SrcF w2 (U.alloc (.cells #[.bool true, .slice none 0 0] 55)) (.slice (some ⟨U.heap.size, 0, none⟩) 1 1) [⟨true, []⟩] from
    .inr ⟨by simp, U.heap.size, 0, 1, [.bool true, .slice none 0 0], rfl, rfl, fun j x hj => by
      have e := heap_alloc_new U (.cells #[.bool true, .slice none 0 0] 55)
      rw [Nat.zero_add, Lib.cell_of_heap e]
      simpa using hj, by simp [Value.oneCell'], fun j hj => by
      have hj1 : j < 1 := hj
      obtain rfl : j = 0 := by omega
      exact ⟨rfl, none, 0, rfl, fun W _ => .inl ⟨rfl, .inl rfl⟩⟩⟩))
  go_upto_region 6 with (at_builtin; first
    | (refine wpList_append_fls rfl _ _ rfl w2 _ _ _ _ rfl rfl HO0.out HSA.out HBA.out (Nat.le_trans (Nat.add_le_add (Nat.le_refl _) HTL.out) (by decide)) ?_; intro v3 w3 ho3 hb3; have HO3 := Lib.hid ho3; have HB3 := Lib.hid hb3; clear ho3 hb3)
    | (refine wpList_append_fls rfl _ _ rfl w2 _ _ _ _ rfl rfl (HO3.out.below (balloc (Below.refl _ w3) _)) (HSX.out w3) (bthen HB3.out (balloc (Below.refl _ w3) _)) (by have := HTL.out; rw [List.nil_append]; show _ + 1 ≤ 1000; omega) ?_; intro v4 w4 ho4 hb4; have HO4 := Lib.hid ho4; have HB4 := Lib.hid hb4; clear ho4 hb4))
  have HSB := Lib.hid (srcF_of (files_drop HS2.out HNN.out.1 HC.out) HB4.out)
  have HDL := Lib.hid (show (l.drop N).length ≤ 7 by rw [List.length_drop]; have := HNN.out; have := HNQ.out; omega)
  go_upto_region 7 with (at_builtin; (refine wpList_append_fls rfl _ _ rfl w2 _ _ _ _ rfl rfl HO4.out HSB.out HB4.out (by have := HTL.out; have := HDL.out; rw [List.nil_append, List.length_append]; show _ + 1 + _ ≤ 1000; omega) ?_; intro v5 w5 ho5 hb5; have HO5 := Lib.hid ho5; have HB5 := Lib.hid hb5; clear ho5 hb5))
  obtain ⟨K, hK0⟩ : ∃ K, K = l.take N ++ [(⟨true, []⟩ : Fl)] ++ l.drop N := ⟨_, rfl⟩
  have hOK5 : OutF w2 v5 K w5 := by rw [hK0]; exact HO5.out
  have hKl : K.length = n + 1 := by rw [hK0]; have := HNN.out; have := HNQ.out; simp; omega
  have hKf : flat K = flat l := by rw [hK0]; exact flat_ins l N
  have hKe : pickE K = V := by rw [hK0, pickE_ins (by have := HNN.out; have := HNQ.out; omega) (by have := HNN.out; have := HNQ.out; omega)]; exact HV.out
  have hKo : ∀ f ∈ K, FlOk f := by
    rw [hK0]
    intro f hf
    rcases List.mem_append.1 hf with hf | hf
    · rcases List.mem_append.1 hf with hf | hf
      · exact HOK.out f (List.mem_of_mem_take hf)
      · obtain rfl : f = ⟨true, []⟩ := by simpa using hf
        exact ⟨by simp, fun m hm => by simp at hm⟩
    · exact HOK.out f (List.mem_of_mem_drop hf)
  obtain ⟨A5, c5, hv5⟩ := hOK5.slice
  subst hv5
  have hF5 := hOK5.files HB5.out
  rw [hKl] at hF5
  have HT5 := Lib.hid (pickTake_any K A5 (n + 1) c5 w5 hKl (by have := HNN.out; omega) hKo hF5)
  rw [hKl]
  have HKF := Lib.hid hKf
  have HKE := Lib.hid hKe
  clear hOK5 hF5 hKo hKf hKe hKl HO5 HO4 HO3 HSB HSA HO0 HSX HTL HDL hK0
  generalize (if c = N then A else Option.map (fun x => x.add (N * 2)) A) = AD
  go_wp2_with fail
  refine HT5.out.mono ?_
  rintro r w6 ⟨hb6, hcase⟩
  have HB6 := Lib.hid (bthen HB5.out hb6)
  obtain ⟨A3, c3, rfl, hm3⟩ : ∃ A3 c3, r = .returned (.tuple #[.slice A3 nr c3, .int .i64 V]) ∧ Mods w6 (.slice A3 nr c3) rr := by
    rcases hcase with ⟨hne, rfl⟩ | ⟨hg, r3, A3, c3, htk, rfl, hmods, -⟩
    · rw [HKE.out] at hne ⊢
      rcases HGR.out with ⟨-, rfl⟩ | ⟨hz, -⟩
      · have : nr = 0 := by rw [← HNR.out]; rfl
        subst this
        exact ⟨none, 0, rfl, .inl ⟨rfl, .inl rfl⟩⟩
      · exact absurd hz hne
    · have hz : V = 0 := by rw [← HKE.out]; exact good_zero hg
      subst hz
      rcases HGR.out with ⟨h0, -⟩ | ⟨-, htk2⟩
      · exact absurd rfl h0
      · obtain rfl : r3 = rr := taken_fun (HKF.out ▸ htk) htk2
        rw [HNR.out] at hmods ⊢
        exact ⟨A3, c3, rfl, hmods⟩
  have HMD := Lib.hid (show Calls Try.prog 26 #[.slice A2 nr c2, .slice A3 nr c3] w6 fun e w' => e = .returned (.bool true) ∧ Below w6.heap.size w6 w' from by
    have h := refMods_any rr rr A2 A3 nr c2 nr c3 w6 HNR.out HNR.out (by have := HLR.out; omega) HOK2.out HOK2.out (HM2.out.next HB6.out) hm3
    rwa [listB_refl sameM_refl] at h)
  clear hb6 hm3 hcase HT5
  go_wp2_with fail
  refine HMD.out.mono ?_
  rintro r w7 ⟨rfl, hb7⟩
  have HB7 := Lib.hid (bthen HB6.out hb7)
  clear hb7
  go_wp2_with fail
  go_ret
  exact ⟨by simp, bthen HB2.out HB7.out⟩
end Go.Proofs.Ytcfniagmnkngfaa
