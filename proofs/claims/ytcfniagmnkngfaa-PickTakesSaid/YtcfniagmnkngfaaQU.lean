/- PickNames: what a module defines and wants are its own names: the walk. -/
import Derived.Test.YtcfniagmnkngfaaQR
namespace Go.Proofs.Ytcfniagmnkngfaa
open Go.RowKit Go.Deep Go.ChangeShapes Go.WideShapes

section
variable {H : Type} {enc : TypeId × Value → H} {W : World} {base : Nat} {spare : Nat → Bool} {held : Bool}
theorem bytesFunc56 : Try.prog.bytesOf 78 = 56 := by kernel_rfl
theorem bytesGlob40 : Try.prog.bytesOf 80 = 40 := by kernel_rfl
theorem mds_mod (n : Nat) (F G : Option Addr) (nf cf ng cg : Nat) (y : DataW H × List MemPlace) (ht : DataW.trod enc Try.prog W base spare held n 25 [.slice F nf cf, .slice G ng cg] = some y) (hz : ∀ k ∈ y.1.weights Try.prog 25, k ≤ reachBytes) :
    (nf + ng) * 16 ≤ 140737488355000 := by
  obtain ⟨ys, q, hd, _, _, hg⟩ := row_of Try.underlying25 (by kernel_rfl) cellsModule ht
  obtain ⟨c0, y0, g0, hy0, r0⟩ := hg 0 _ rfl
  obtain ⟨c1, y1, g1, hy1, r1⟩ := hg 1 _ rfl
  obtain rfl : (.slice F nf cf : Value) = c0 := Option.some.inj g0
  obtain rfl : (.slice G ng cg : Value) = c1 := Option.some.inj g1
  obtain ⟨A, cap, l, e, -, -, -, -, h3⟩ := open_roww FnAt FnW Try.underlying22 cellsFunc (by omega) openw_func_at r0 (fun k hk => hz k (by
    have hq : (ys.map (·.1))[0]? = some y0.1 := by rw [List.getElem?_map, hy0]; rfl
    (try simp only at hd)
    rw [hd]
    simp only [DataW.weights, Try.underlying25]
    exact DataW.weights_mem_each (j := 0) rfl hq _ hk))
  obtain ⟨A', cap', l', e', -, -, -, -, h3'⟩ := open_roww GlAt GlW Try.underlying23 cellsGlob (by omega) openw_glob_at r1 (fun k hk => hz k (by
    have hq : (ys.map (·.1))[1]? = some y1.1 := by rw [List.getElem?_map, hy1]; rfl
    (try simp only at hd)
    rw [hd]
    simp only [DataW.weights, Try.underlying25]
    exact DataW.weights_mem_each (j := 1) rfl hq _ hk))
  rw [bytesFunc56] at h3
  rw [bytesGlob40] at h3'
  have e1 := (Value.slice.inj e).2.1
  have e2 := (Value.slice.inj e').2.1
  omega
theorem mds_module {F G : Option Addr} {nf cf ng cg : Nat} {d : DataW H} {p : List MemPlace} (h : DataW.Trod enc Try.prog W base spare held 25 (.agg #[.slice F nf cf, .slice G ng cg]) d p) (hz : ∀ k ∈ d.weights Try.prog 25, k ≤ reachBytes) : (nf + ng) * 16 ≤ 140737488355000 := by
  obtain ⟨fuel, hf⟩ := h
  exact mds_mod fuel F G nf cf ng cg _ hf hz
end
/-- a module's names, each with whether it is here and how it binds -/
def ents (m : Md) : List (ByteArray × Bool × Int) := m.f.map (fun f => (f.s, decide (0 < f.l.length), f.b)) ++ m.g.map (fun g => (g.s, g.h, g.b))
theorem ents_names (m : Md) : (ents m).map (·.1) = namesM m := by
  unfold ents namesM
  rw [List.map_append, List.map_map, List.map_map]
  rfl
theorem selM_ents (p : Bool → Int → Bool) (m : Md) : selM p m = ((ents m).filter fun e => p e.2.1 e.2.2).map (·.1) := by
  unfold selM selF selG ents
  rw [List.filter_append, List.map_append, List.filter_map, List.filter_map, List.map_map, List.map_map]
  rfl
theorem both_len : ∀ (l : List (ByteArray × Bool × Int)), (l.filter fun e => defP e.2.1 e.2.2).length + (l.filter fun e => wantP e.2.1 e.2.2).length ≤ l.length
  | [] => Nat.le_refl _
  | x :: l => by
    have ih := both_len l
    have hx : ¬ (defP x.2.1 x.2.2 = true ∧ wantP x.2.1 x.2.2 = true) := by
      unfold defP wantP
      cases x.2.1 <;> simp
    rw [List.filter_cons, List.filter_cons, List.length_cons]
    by_cases d : defP x.2.1 x.2.2 = true
    · have e : ¬ wantP x.2.1 x.2.2 = true := fun e => hx ⟨d, e⟩
      rw [if_pos d, if_neg e, List.length_cons]
      omega
    · rw [if_neg d]
      by_cases e : wantP x.2.1 x.2.2 = true
      · rw [if_pos e, List.length_cons]
        omega
      · rw [if_neg e]
        omega
theorem pnames_len (m : Md) : (selM defP m).length + (selM wantP m).length ≤ m.f.length + m.g.length := by
  rw [selM_ents, selM_ents, List.length_map, List.length_map]
  have := both_len (ents m)
  have h2 : (ents m).length = m.f.length + m.g.length := by simp [ents]
  omega
theorem inj_of_nodup {α β : Type} {f : α → β} : ∀ {l : List α}, (l.map f).Nodup → ∀ x ∈ l, ∀ y ∈ l, f x = f y → x = y
  | [], _, x, hx, _, _, _ => by simp at hx
  | z :: l, h, x, hx, y, hy, e => by
    rw [List.map_cons, List.nodup_cons] at h
    rcases List.mem_cons.1 hx with h1 | h1
    · rcases List.mem_cons.1 hy with h2 | h2
      · rw [h1, h2]
      · exact absurd (by rw [← h1, e]; exact List.mem_map_of_mem h2) h.1
    · rcases List.mem_cons.1 hy with h2 | h2
      · exact absurd (by rw [← h2, ← e]; exact List.mem_map_of_mem h1) h.1
      · exact inj_of_nodup h.2 x h1 y h2 e
theorem def_not_want {m : Md} (h : checkE m = 0) : ∀ s ∈ selM defP m, inB (selM wantP m) s = false ∧ s.size ≠ 0 := by
  obtain ⟨h1, h2, h3, h4, -, -⟩ := check_parts h
  rw [← ents_names] at h4
  intro s hs
  rw [selM_ents] at hs
  obtain ⟨x, hx, rfl⟩ := List.mem_map.1 hs
  obtain ⟨hxm, hxp⟩ := List.mem_filter.1 hx
  refine ⟨?_, ?_⟩
  · rw [selM_ents]
    unfold inB
    rw [List.any_eq_false]
    intro t ht he
    obtain ⟨y, hy, rfl⟩ := List.mem_map.1 ht
    obtain ⟨hym, hyp⟩ := List.mem_filter.1 hy
    have e := inj_of_nodup h4 y hym x hxm ((jba_beq _ _).1 he)
    subst e
    revert hxp hyp
    unfold defP wantP
    cases y.2.1 <;> simp
  · unfold aloneB at h3
    rw [Bool.and_eq_true, List.all_eq_true, List.all_eq_true] at h3
    have hn : nameB x.1 = true := by
      unfold ents at hxm
      rcases List.mem_append.1 hxm with hm | hm
      · obtain ⟨f, hf, rfl⟩ := List.mem_map.1 hm
        have := h3.1 f hf
        unfold funcB at this
        simp only [Bool.and_eq_true] at this
        exact this.1.1.1.1
      · obtain ⟨g, hg, rfl⟩ := List.mem_map.1 hm
        have := h3.2 g hg
        unfold globB at this
        simp only [Bool.and_eq_true] at this
        exact this.1.1
    unfold nameB at hn
    simp only [Bool.and_eq_true, decide_eq_true_eq] at hn
    omega
theorem pickE_one (m : Md) : pickE [⟨false, [m]⟩] = checkE m := by
  unfold pickE
  rw [if_neg (by simp [sumM]), if_neg (by simp [oneB])]
  show (if checkE m = 0 then (0 : Int) else checkE m) = checkE m
  split
  · rename_i h; exact h.symm
  · rfl
set_option maxRecDepth 100000 in
set_option maxHeartbeats 8000000 in
theorem pickNames_all (m : Md) (F G : Option Addr) (cf cg : Nat) (w : World) (hok : MdOk m) (hw : MdW m) (h16 : (m.f.length + m.g.length) * 16 ≤ 140737488355000) (hS : MdAt w (.slice F m.f.length cf) (.slice G m.g.length cg) m) :
    Calls Try.prog 9 #[.agg #[.slice F m.f.length cf, .slice G m.g.length cg]] w fun e w' => e = .returned (.bool true) ∧ Below w.heap.size w w' := by
  have HD := Lib.hid (fun (U : World) (hU : Below w.heap.size w U) => defines_any m F G m.f.length cf m.g.length cg U rfl rfl h16 (hS.next hU))
  have HW := Lib.hid (fun (U : World) (hU : Below w.heap.size w U) => wants_any m F G m.f.length cf m.g.length cg U rfl rfl h16 (hS.next hU))
  have HCK := Lib.hid (fun (U : World) (A : Option Addr) (c : Nat) (hF : Files U (.slice A 1 c) [⟨false, [m]⟩]) => (show Calls Try.prog 33 #[.slice A 1 c] U fun e w' => e = .returned (.int .i64 (checkE m)) ∧ Below U.heap.size U w' from by
    rw [← pickE_one m]
    exact refPickCheck_any [⟨false, [m]⟩] A 1 c U rfl (by decide) (fun f hf => by
      obtain rfl : f = ⟨false, [m]⟩ := by simpa using hf
      exact ⟨by simp, fun x hx => by obtain rfl : x = m := (by simpa using hx); exact hok⟩) (fun f hf x hx => by
      obtain rfl : f = ⟨false, [m]⟩ := by simpa using hf
      obtain rfl : x = m := by simpa using hx
      exact hw) hF))
  have HMA := Lib.hid (fun (U : World) (hU : Below w.heap.size w U) => hS.next hU)
  have HNL := Lib.hid (pnames_len m)
  have HDW := Lib.hid (fun h => def_not_want (m := m) h)
  have HLD := Lib.hid (show m.f.length + m.g.length ≤ 8796093022187 by omega)
  obtain ⟨nf, hnf⟩ : ∃ z, m.f.length = z := ⟨_, rfl⟩
  obtain ⟨ng, hng⟩ : ∃ z, m.g.length = z := ⟨_, rfl⟩
  have HMF := Lib.hid (And.intro hnf hng)
  rw [hnf, hng] at HD HW HMA HNL HLD ⊢
  obtain ⟨V, hV⟩ : ∃ V, checkE m = V := ⟨_, rfl⟩
  rw [hV] at HCK HDW
  generalize selM defP m = ds at HD HNL HDW
  generalize selM wantP m = ws at HW HNL HDW
  have f9 : (nf : Int) + (ng : Int) ≤ 8796093022187 := by have := HLD.out; omega
  have f0 : (0 : Int) ≤ (nf : Int) := Int.natCast_nonneg _
  have g0 : (0 : Int) ≤ (ng : Int) := Int.natCast_nonneg _
  clear hok hw h16 hS hnf hng hV
  have HX := Lib.hid (heap_alloc_new w (.cells #[.slice F nf cf, .slice G ng cg] 25))
  have HB0 := Lib.hid (balloc (Below.refl _ w) (.cells #[.slice F nf cf, .slice G ng cg] 25))
  go_enter Try.func9, Try.ntmps9
  go_upto_region 1 with fail
  generalize w.alloc (.cells #[.slice F nf cf, .slice G ng cg] 25) = W0 at *
  have HCX := Lib.hid (fun (U : World) (hU : Below W0.heap.size W0 U) => (show U.cell? ⟨w.heap.size, 0, none⟩ = some (.slice F nf cf) ∧ U.cell? ⟨w.heap.size, 1, none⟩ = some (.slice G ng cg) from by
    have e := (hU.block _ (Array.getElem?_eq_some_iff.1 HX.out).1).trans HX.out
    exact ⟨Lib.cell_of_heap e 0, Lib.cell_of_heap e 1⟩))
  go_wp2_with fail
  refine (pshown_any W0).mono ?_
  rintro r w1 ⟨rfl, hb1⟩
  have HB1 := Lib.hid hb1
  obtain ⟨c0, c1⟩ := HCX.out w1 hb1
  have HD1 := Lib.hid (HD.out w1 (bthen HB0.out hb1))
  clear hb1 HD
  go_wp2_with fail
  refine HD1.out.mono ?_
  rintro r w2 ⟨v2, rfl, hs2, hb2⟩
  obtain ⟨A2, z2, rfl⟩ := RowOf.slice hs2
  have HB2 := Lib.hid (bthen HB1.out hb2)
  have HS2 := Lib.hid hs2
  have HW2 := Lib.hid (HW.out w2 (bthen HB0.out HB2.out))
  clear c0 c1 hs2 hb2 HD1 HW
  obtain ⟨c0, c1⟩ := HCX.out w2 HB2.out
  go_wp2_with fail
  refine HW2.out.mono ?_
  rintro r w3 ⟨v3, rfl, hs3, hb3⟩
  obtain ⟨A3, z3, rfl⟩ := RowOf.slice hs3
  have HB3 := Lib.hid (bthen HB2.out hb3)
  have HS3 := Lib.hid hs3
  have HS23 := Lib.hid (HS2.out.next hb3)
  clear c0 c1 hs3 hb3 HW2 HS2
  obtain ⟨c0, c1⟩ := HCX.out w3 HB3.out
  have h1 := heap_alloc_new w3 (.cells #[.slice F nf cf, .slice G ng cg] 25)
  have k1 := balloc (Below.refl _ w3) (.cells #[.slice F nf cf, .slice G ng cg] 25)
  have h2 := heap_alloc_new (w3.alloc (.cells #[.slice F nf cf, .slice G ng cg] 25)) (.cells #[.bool false, .slice (some ⟨w3.heap.size, 0, none⟩) 1 1] 55)
  have k2 := balloc (Below.refl _ (w3.alloc (.cells #[.slice F nf cf, .slice G ng cg] 25))) (.cells #[.bool false, .slice (some ⟨w3.heap.size, 0, none⟩) 1 1] 55)
  have h1' := (k2.block _ (Array.getElem?_eq_some_iff.1 h1).1).trans h1
  rw [World.size_alloc] at h2
  have HBF := Lib.hid (bthen HB3.out (bthen k1 k2))
  have HSF := Lib.hid (HS23.out.next (bthen k1 k2))
  have HSG := Lib.hid (HS3.out.next (bthen k1 k2))
  have HCF := Lib.hid (HCK.out ((w3.alloc (.cells #[.slice F nf cf, .slice G ng cg] 25)).alloc (.cells #[.bool false, .slice (some ⟨w3.heap.size, 0, none⟩) 1 1] 55)) (some ⟨w3.heap.size + 1, 0, none⟩) 1 (.inr ⟨by simp, w3.heap.size + 1, 0, 1, rfl, (Array.getElem?_eq_some_iff.1 h2).1, fun i hi => by
    have hi1 : i < 1 := hi
    obtain rfl : i = 0 := by omega
    refine ⟨Lib.cell_of_heap h2 0, some ⟨w3.heap.size, 0, none⟩, 1, Lib.cell_of_heap h2 1, .inr ⟨by simp, w3.heap.size, 0, 1, rfl, (Array.getElem?_eq_some_iff.1 h1').1, fun k hk => ?_⟩⟩
    have hk1 : k < 1 := hk
    obtain rfl : k = 0 := by omega
    obtain ⟨e1, e2⟩ := HMF.out
    exact ⟨F, cf, G, cg, by show _ = some (Value.slice F m.f.length cf); rw [e1]; exact Lib.cell_of_heap h1' 0, by show _ = some (Value.slice G m.g.length cg); rw [e2]; exact Lib.cell_of_heap h1' 1, by
      show MdAt _ (.slice F m.f.length cf) (.slice G m.g.length cg) m
      rw [e1, e2]
      exact HMA.out _ (bthen HB0.out HBF.out)⟩⟩))
  clear h1 k1 h2 k2 h1' HCK HS23 HS3
  go_wp2_with fail
  refine HCF.out.mono ?_
  rintro r w4 ⟨rfl, hb4⟩
  have HB4 := Lib.hid (bthen HBF.out hb4)
  have HSD := Lib.hid (HSF.out.next hb4)
  have HSW := Lib.hid (HSG.out.next hb4)
  clear hb4 c0 c1 HCF HSF HSG HBF
  by_cases hz : V = 0
  case neg =>
    have hz1 : (V == 0) = false := by simpa using hz
    have HBB := Lib.hid (bthen HB0.out HB4.out)
    go_wp2_with fail
    go_ret
    exact ⟨rfl, HBB.out⟩
  subst hz
  have HDN := Lib.hid (HDW.out rfl)
  obtain ⟨nd, hnd⟩ : ∃ z, ds.length = z := ⟨_, rfl⟩
  obtain ⟨nw, hnw⟩ : ∃ z, ws.length = z := ⟨_, rfl⟩
  rw [hnd, hnw] at HNL
  rw [hnd] at HSD
  rw [hnw] at HSW
  have HND := Lib.hid (show ds.length ≤ nd ∧ nd ≤ ds.length by omega)
  have HNW := Lib.hid hnw
  have hw9 : nw ≤ 9223372036854775807 := by have := HNL.out; have := HLD.out; omega
  have HHA := Lib.hid (fun (s : ByteArray) (U : World) (hU : Below w4.heap.size w4 U) => refHas_below ws s A3 nw z3 U HNW.out hw9 (HSW.out.next hU))
  have d9 : (nd : Int) + (nw : Int) ≤ (nf : Int) + (ng : Int) := by have := HNL.out; omega
  have d0 : (0 : Int) ≤ (nd : Int) := Int.natCast_nonneg _
  have w0 : (0 : Int) ≤ (nw : Int) := Int.natCast_nonneg _
  rw [hnd, hnw]
  clear hnd hnw hw9 HDW
  go_wp2_with fail
  go_loopw [7] (fun iv wr => ∃ i : Nat, i ≤ nd ∧ iv = .int .i64 i ∧ Below w4.heap.size w4 wr) (fun iv _ => nd - (intOf iv).toNat)
  case atStart => exact ⟨0, Nat.zero_le _, rfl, Below.refl _ _⟩
  case round =>
    obtain ⟨i, hi, rfl, hb⟩ := hrel
    have HB := Lib.hid hb
    clear hb
    have hk0 : (0 : Int) ≤ (i : Int) := Int.natCast_nonneg _
    by_cases hlt : i < nd
    · have hm : i < ds.length := by have := HND.out; omega
      obtain ⟨b1, off, hA, hbl, e0⟩ := RowOf.at_ (HSD.out.next HB.out) hm
      subst hA
      simp only [Nat.mul_one] at e0
      obtain ⟨hf, hz0⟩ := HDN.out _ (List.getElem_mem hm)
      obtain ⟨s, hx⟩ : ∃ x, ds[i] = x := ⟨_, rfl⟩
      rw [hx] at e0 hf hz0
      have HH := Lib.hid (HHA.out s wr HB.out)
      rw [hf] at HH
      have hk1 : (i : Int) < (nd : Int) := by omega
      have hsz : ((s.size : Int) == 0) = false := by simpa using hz0
      have hsz' : (s.size == 0) = false := by simpa using hz0
      have HLT := Lib.hid hlt
      have HC0 := Lib.hid (fun (U : World) (hU : Below wr.heap.size wr U) => (cellNext hbl hU _).trans e0)
      clear hx hm hlt hbl hf
      go_wp2_with fail
      refine HH.out.mono ?_
      rintro r w5 ⟨rfl, hb5⟩
      have HB5 := Lib.hid (bthen HB.out hb5)
      have e1 := HC0.out w5 hb5
      clear hb5 e0 HH
      go_wp2_with fail
      go_roundw
      case rel => exact ⟨i + 1, HLT.out, by go_num, HB5.out⟩
      case measure => have := HLT.out; simp [intOf]; omega
    · have hd : decide ((i : Int) < (nd : Int)) = false := by simp; omega
      obtain ⟨c0, c1⟩ := HCX.out wr (bthen HB4.out HB.out)
      have HBB := Lib.hid (bthen HB0.out (bthen HB4.out HB.out))
      have hle : decide ((nd : Int) + (nw : Int) ≤ (nf : Int) + (ng : Int)) = true := decide_eq_true d9
      have hw1 : wrap64 ((nd : Int) + (nw : Int)) = (nd : Int) + (nw : Int) := by unfold wrap64; omega
      have hw2 : wrap64 ((nf : Int) + (ng : Int)) = (nf : Int) + (ng : Int) := by unfold wrap64; omega
      go_wp2_with fail
      go_ret
      exact ⟨by first | rfl | simp | (simp; omega), HBB.out⟩
end Go.Proofs.Ytcfniagmnkngfaa
