/- Package resolve: ResolveThere. -/
import Derived.Test.YtniolkjeblocaaaZ2
namespace Go.Proofs.Ytniolkjeblocaaa
open Go.RowKit

theorem wrV_zero {b1 b2 b3 : Bool} {e : Int} (he : e = 0 ∨ e = 11) (h : wrV b1 b2 b3 e = 0) : b1 = false ∧ b2 = false ∧ b3 = false := by
  rcases he with rfl | rfl <;> cases b1 <;> cases b2 <;> cases b3 <;> first | exact ⟨rfl, rfl, rfl⟩ | (exact absurd h (by decide))
theorem tblE_zero {G : List Gp} (h : tblE G = 0) : (∀ g ∈ G, misB g.l = false) ∧ (∀ g ∈ G, twoB g.l = false) ∧ ∀ g ∈ G, mixB g.l = false := by
  unfold tblE at h
  rw [fold_wr G (entE_set G)] at h
  obtain ⟨h1, h2, h3⟩ := wrV_zero (entE_two G) h
  exact ⟨fun g hg => by simpa using List.any_eq_false.1 h1 g hg, fun g hg => by simpa using List.any_eq_false.1 h2 g hg, fun g hg => by simpa using List.any_eq_false.1 h3 g hg⟩
theorem allI_at {ms : List Md} {x : Ri} (hx : x ∈ allI ms ms.length) : ∃ i, ∃ hi : i < ms.length, x.o = (i : Int) ∧ ((∃ f ∈ ms[i].f, ¬ f.b = 1 ∧ x = ofF (i : Int) f) ∨ ∃ g ∈ ms[i].g, ¬ g.b = 1 ∧ x = ofG (i : Int) g) := by
  unfold allI at hx
  obtain ⟨l, hl, hxl⟩ := List.mem_flatten.1 hx
  obtain ⟨⟨m, i⟩, hp, rfl⟩ := List.mem_map.1 hl
  have hp2 := List.mem_of_mem_take hp
  obtain ⟨hi, hm⟩ : ∃ hi : i < ms.length, m = ms[i] := by
    have := List.mem_zipIdx hp2
    simp at this
    exact ⟨this.1, this.2⟩
  subst hm
  unfold itemsOf at hxl
  refine ⟨i, hi, ?_, ?_⟩
  · rcases List.mem_append.1 hxl with h | h
    · obtain ⟨f, hf, rfl⟩ := List.mem_map.1 h
      rfl
    · obtain ⟨g, hg, rfl⟩ := List.mem_map.1 h
      rfl
  · rcases List.mem_append.1 hxl with h | h
    · obtain ⟨f, hf, rfl⟩ := List.mem_map.1 h
      have := List.mem_filter.1 hf
      exact .inl ⟨f, this.1, by simpa using this.2, rfl⟩
    · obtain ⟨g, hg, rfl⟩ := List.mem_map.1 h
      have := List.mem_filter.1 hg
      exact .inr ⟨g, this.1, by simpa using this.2, rfl⟩
theorem mixB_same {xs : List Ri} {y : Ri} (hy : xs[0]? = some y) (h : mixB xs = false) : ∀ x ∈ xs, x.f = y.f ∧ x.p = y.p := by
  rw [mixB_at hy] at h
  intro x hx
  have := List.any_eq_false.1 h x hx
  unfold difB at this
  simpa using this
theorem se_df {xs : List Ri} (h : xs.any seB = true) : xs.any dfB = true := by
  obtain ⟨x, hx, e⟩ := List.any_eq_true.1 h
  exact List.any_eq_true.2 ⟨x, hx, by unfold seB at e; unfold dfB; simp at e; exact e.1⟩
/-- which item gives the definition -/
theorem pick_item {xs : List Ri} {y : Ri} (hy : xs[0]? = some y) (h : xs.any dfB = true) : ∃ z ∈ xs, (xs[pickI xs]?.map (·.o)).getD 0 = z.o ∧ z.h = true ∧ (xs.any seB = true → z.b = 2) := by
  rw [pick_fst hy]
  cases hs : xs.any seB with
  | true =>
    rw [if_pos rfl]
    cases hf : xs.find? seB with
    | none =>
      obtain ⟨z, hz, e⟩ := List.any_eq_true.1 hs
      exact absurd e (List.find?_eq_none.1 hf z hz)
    | some z =>
      have hz := List.find?_some hf
      unfold seB at hz
      simp at hz
      exact ⟨z, List.mem_of_find?_eq_some hf, fstO_some hf, hz.1, fun _ => hz.2⟩
  | false =>
    rw [if_neg (by simp)]
    cases hf : xs.find? dfB with
    | none =>
      obtain ⟨z, hz, e⟩ := List.any_eq_true.1 h
      exact absurd e (List.find?_eq_none.1 hf z hz)
    | some z => exact ⟨z, List.mem_of_find?_eq_some hf, fstO_some hf, List.find?_some hf, fun h => by simp at h⟩
/-- has a module the function, or the global, of a definition? -/
def inF (d : Df) (l : List Fn) : Bool := l.any fun f => d.f && (f.s == d.s && (decide (0 < f.l.length) && (d.w || f.b == 2)))
def inG (d : Df) (l : List Gl) : Bool := l.any fun g => !d.f && (g.s == d.s && (g.h && (d.w || g.b == 2)))
theorem def_there {ms : List Md} {g : Gp} (hE : tblE (grp (allI ms ms.length)) = 0) (hg : g ∈ grp (allI ms ms.length)) (hh : (defG g).h = true) : ∃ i, ∃ hi : i < ms.length, (defG g).o = (i : Int) ∧ (inF (defG g) ms[i].f || inG (defG g) ms[i].g) = true := by
  obtain ⟨y, hy, -⟩ := grp_some hg
  obtain ⟨z, hz, ho, hzh, hzb⟩ := pick_item hy (show g.l.any dfB = true from hh)
  have hmix := (tblE_zero hE).2.2 g hg
  obtain ⟨hzf, -⟩ := mixB_same hy hmix z hz
  obtain ⟨hzi, hzs⟩ := grp_sub hg z hz
  have hdf : (defG g).f = y.f := by unfold defG; dsimp only; rw [hy]; rfl
  have hdw : (defG g).w = !g.l.any seB := rfl
  have hwb : ((defG g).w || z.b == 2) = true := by
    rw [hdw]
    cases hs : g.l.any seB with
    | true => rw [hzb hs]; rfl
    | false => rfl
  obtain ⟨i, hi, hio, hor⟩ := allI_at hzi
  refine ⟨i, hi, by rw [← hio, ← ho]; rfl, ?_⟩
  rcases hor with ⟨f, hf, -, rfl⟩ | ⟨gl, hgl, -, rfl⟩
  · refine Bool.or_eq_true_iff.2 (.inl (List.any_eq_true.2 ⟨f, hf, ?_⟩))
    rw [hdf, ← hzf]
    show (true && (f.s == g.s && (decide (0 < f.l.length) && ((defG g).w || f.b == 2)))) = true
    rw [show f.s = g.s from hzs, ba_refl, show ((defG g).w || f.b == 2) = true from hwb]
    rw [show decide (0 < f.l.length) = true from hzh]
    rfl
  · refine Bool.or_eq_true_iff.2 (.inr (List.any_eq_true.2 ⟨gl, hgl, ?_⟩))
    rw [hdf, ← hzf]
    show (!false && (gl.s == g.s && (gl.h && ((defG g).w || gl.b == 2)))) = true
    rw [show gl.s = g.s from hzs, ba_refl, show ((defG g).w || gl.b == 2) = true from hwb, show gl.h = true from hzh]
    rfl
theorem def_weak {g : Gp} (hh : (defG g).h = false) : (defG g).w = true := by
  show (!g.l.any seB) = true
  cases hs : g.l.any seB with
  | true => have := se_df hs; rw [show g.l.any dfB = (defG g).h from rfl, hh] at this; cases this
  | false => rfl
theorem inF_take {d : Df} {l : List Fn} {k : Nat} (hk : k < l.length) : inF d (l.take (k + 1)) = (inF d (l.take k) || (d.f && (l[k].s == d.s && (decide (0 < l[k].l.length) && (d.w || l[k].b == 2))))) := by
  unfold inF
  rw [List.take_succ_eq_append_getElem hk, List.any_append]
  simp
theorem inG_take {d : Df} {l : List Gl} {k : Nat} (hk : k < l.length) : inG d (l.take (k + 1)) = (inG d (l.take k) || (!d.f && (l[k].s == d.s && (l[k].h && (d.w || l[k].b == 2))))) := by
  unfold inG
  rw [List.take_succ_eq_append_getElem hk, List.any_append]
  simp
set_option maxRecDepth 100000 in
set_option maxHeartbeats 16000000 in
theorem there_all (ms : List Md) (A : Option Addr) (c : Nat) (w : World) (hok : ∀ m ∈ ms, MdOk m) (hsum : (ms.map fun m => m.f.length + m.g.length).sum ≤ 1048576) (hlen : ms.length ≤ 1048576) (hS : Mods w (.slice A ms.length c) ms) :
    Calls Try.prog 6 #[.slice A ms.length c] w fun e w' => e = .returned (.bool true) ∧ Below w.heap.size w w' := by
  have hT := allI_fit hsum
  have HAL := Lib.hid (fun (U : World) (hU : Below w.heap.size w U) => all_any ms A ms.length c U rfl (by omega) hok hT (hS.next hU))
  have HTH := Lib.hid (show ∀ g ∈ grp (allI ms ms.length), tblE (grp (allI ms ms.length)) = 0 → (defG g).h = true → ∃ i, ∃ hi : i < ms.length, (defG g).o = (i : Int) ∧ (inF (defG g) ms[i].f || inG (defG g) ms[i].g) = true from fun g hg hE hh => def_there hE hg hh)
  have HLL := Lib.hid (show (grp (allI ms ms.length)).length ≤ 1048576 by have := grp_len (allI ms ms.length); have := allI_len ms; omega)
  have HOK := Lib.hid hok
  have HMS := Lib.hid hS
  obtain ⟨G, hG⟩ : ∃ G, grp (allI ms ms.length) = G := ⟨_, rfl⟩
  rw [hG] at HAL HTH HLL
  obtain ⟨E, hE⟩ : ∃ E, tblE G = E := ⟨_, rfl⟩
  rw [hE] at HAL HTH
  obtain ⟨nm, hnm⟩ : ∃ n, ms.length = n := ⟨_, rfl⟩
  have hnm9 : (nm : Int) ≤ 9223372036854775807 := by omega
  have HNM := Lib.hid (show ms.length ≤ nm ∧ nm ≤ ms.length by omega)
  rw [hnm] at HAL HMS ⊢
  clear hE hnm hT hok hsum hlen hS hG
  go_enter Try.func6, Try.ntmps6
  go_wp2_with fail
  refine (rshown_any w).mono ?_
  rintro r w1 ⟨rfl, hb1⟩
  have HB1 := Lib.hid hb1
  clear hb1
  go_wp2_with fail
  refine (HAL.out _ HB1.out).mono ?_
  rintro r w2 ⟨v1, rfl, hd1, hb2⟩
  have HB2 := Lib.hid (bthen HB1.out hb2)
  clear hb2
  by_cases hE0 : E = 0
  case neg =>
    clear hd1
    go_wp2_with fail
    go_ret
    exact ⟨rfl, HB2.out⟩
  subst hE0
  rw [allD_ok] at hd1
  obtain ⟨A1, c1, e1⟩ := hd1.slice
  obtain ⟨n, hn⟩ : ∃ n, (G.map defG).length = n := ⟨_, rfl⟩
  rw [hn] at e1
  subst e1
  have HD := Lib.hid hd1
  have HN := Lib.hid (show (G.map defG).length ≤ n ∧ n ≤ (G.map defG).length by omega)
  have n9 : (n : Int) ≤ 9223372036854775807 := by have := HLL.out; rw [List.length_map] at hn; omega
  have HM2 := Lib.hid (HMS.out.next HB2.out)
  clear hd1 hn HAL
  go_wp2_with fail
  go_loopw [6] (fun iv wr => ∃ i : Nat, i ≤ n ∧ iv = .int .i64 i ∧ Below w2.heap.size w2 wr) (fun iv _ => n - (intOf iv).toNat)
  case atStart => exact ⟨0, Nat.zero_le _, rfl, Below.refl _ _⟩
  case round =>
    obtain ⟨i, hi, rfl, hb⟩ := hrel
    have HB := Lib.hid hb
    by_cases hlt : i < n
    case neg =>
      have hd : decide ((i : Int) < (n : Int)) = false := by simp; omega
      clear hb
      go_wp2_with fail
      go_ret
      exact ⟨rfl, bthen HB2.out HB.out⟩
    have hl : i < (G.map defG).length := by have := HN.out; omega
    have hgl : i < G.length := by simpa using hl
    obtain ⟨b1, off1, hA1, hbl1, g0, g1, g2, g3, g4⟩ := RowOf.at_ (HD.out.next hb) hl
    subst hA1
    rw [List.getElem_map] at g0 g1 g2 g3 g4
    have HW := Lib.hid (show (defG G[i]).h = false → (defG G[i]).w = true from fun h => def_weak h)
    have HJ := Lib.hid (HTH.out _ (List.getElem_mem hgl) (by first | trivial | rfl))
    obtain ⟨d, hd⟩ : ∃ d, defG G[i] = d := ⟨_, rfl⟩
    rw [hd] at g0 g1 g2 g3 g4 HW HJ
    obtain ⟨ds, do', df, dw, dh⟩ := d
    dsimp only at g0 g1 g2 g3 g4 HW HJ
    have i0 : (0 : Int) ≤ (i : Int) := Int.natCast_nonneg _
    have i1 : (i : Int) < (n : Int) := by omega
    have HLT := Lib.hid hlt
    have HBA := Lib.hid (bthen hb (balloc (Below.refl _ wr) (.cells #[.string ds, .int .i64 do', .bool df, .bool dw, .bool dh] 49)))
    have HDX := Lib.hid (heap_alloc_new wr (.cells #[.string ds, .int .i64 do', .bool df, .bool dw, .bool dh] 49))
    clear hlt hl hgl hbl1 hb hd
    cases dh with
    | false =>
      have hw := HW.out rfl
      subst hw
      go_wp2_with fail
      go_roundw
      case rel => exact ⟨i + 1, HLT.out, by go_num, HBA.out⟩
      case measure => have := HLT.out; simp [intOf]; omega
    | true =>
    obtain ⟨j, hj, rfl, hin⟩ := HJ.out rfl
    obtain ⟨b2, off2, hA2, hbl2, F, cf, Gv, cg, m0, m1, hmd⟩ := RowOf.at_ HM2.out hj
    subst hA2
    have j0 : (0 : Int) ≤ (j : Int) := Int.natCast_nonneg _
    have j1 : (j : Int) < (nm : Int) := by have := HNM.out; omega
    have d1 : decide ((j : Int) < 0) = false := by simp
    have d2 : decide ((nm : Int) ≤ (j : Int)) = false := by simp; omega
    have d3 : decide (nm ≤ j) = false := by simp; omega
    have hmo := HOK.out _ (List.getElem_mem hj)
    obtain ⟨m, hm⟩ : ∃ m, ms[j] = m := ⟨_, rfl⟩
    rw [hm] at m0 m1 hmd hin hmo
    have HIN := Lib.hid hin
    obtain ⟨nf, hnf⟩ : ∃ q, m.f.length = q := ⟨_, rfl⟩
    obtain ⟨ng, hng⟩ : ∃ q, m.g.length = q := ⟨_, rfl⟩
    rw [hnf] at m0 hmd
    rw [hng] at m1 hmd
    have nf9 : (nf : Int) ≤ 9223372036854775807 := by have := hmo.2.2.1; omega
    have ng9 : (ng : Int) ≤ 9223372036854775807 := by have := hmo.2.2.2; omega
    have HF := Lib.hid hmd.1
    have HG := Lib.hid hmd.2
    have HNF := Lib.hid (show m.f.length ≤ nf ∧ nf ≤ m.f.length by omega)
    have HNG := Lib.hid (show m.g.length ≤ ng ∧ ng ≤ m.g.length by omega)
    have m0 := (cellNext hbl2 HBA.out _).trans m0
    have m1 := (cellNext hbl2 HBA.out _).trans m1
    have HDC := Lib.hid (fun (U : World) (hU : Below (wr.alloc (.cells #[.string ds, .int .i64 j, .bool df, .bool dw, .bool true] 49)).heap.size (wr.alloc (.cells #[.string ds, .int .i64 j, .bool df, .bool dw, .bool true] 49)) U) => (show U.cell? ⟨wr.heap.size, 0, none⟩ = some (.string ds) ∧ U.cell? ⟨wr.heap.size, 1, none⟩ = some (.int .i64 j) ∧ U.cell? ⟨wr.heap.size, 2, none⟩ = some (.bool df) ∧ U.cell? ⟨wr.heap.size, 3, none⟩ = some (.bool dw) ∧ U.cell? ⟨wr.heap.size, 4, none⟩ = some (.bool true) from by
      have h := (hU.block wr.heap.size (by simp)).trans HDX.out
      exact ⟨Lib.cell_of_heap h 0, Lib.cell_of_heap h 1, Lib.cell_of_heap h 2, Lib.cell_of_heap h 3, Lib.cell_of_heap h 4⟩))
    have HB5 := Lib.hid (balloc (Below.refl _ (wr.alloc (.cells #[.string ds, .int .i64 j, .bool df, .bool dw, .bool true] 49))) (.cells #[.slice F nf cf, .slice Gv ng cg] 25))
    have HMX := Lib.hid (fun (U : World) (hU : Below ((wr.alloc (.cells #[.string ds, .int .i64 j, .bool df, .bool dw, .bool true] 49)).alloc (.cells #[.slice F nf cf, .slice Gv ng cg] 25)).heap.size ((wr.alloc (.cells #[.string ds, .int .i64 j, .bool df, .bool dw, .bool true] 49)).alloc (.cells #[.slice F nf cf, .slice Gv ng cg] 25)) U) => (show U.cell? ⟨wr.heap.size + 1, 0, none⟩ = some (.slice F nf cf) ∧ U.cell? ⟨wr.heap.size + 1, 1, none⟩ = some (.slice Gv ng cg) from by
      have h0 := heap_alloc_new (wr.alloc (.cells #[.string ds, .int .i64 j, .bool df, .bool dw, .bool true] 49)) (.cells #[.slice F nf cf, .slice Gv ng cg] 25)
      rw [World.size_alloc] at h0
      have h := (hU.block (wr.heap.size + 1) (by simp)).trans h0
      exact ⟨Lib.cell_of_heap h 0, Lib.cell_of_heap h 1⟩))
    clear hmd hmo hm hnf hng hbl2 hj hin
    go_wp2_with fail
    clear m0 m1 g0 g1 g2 g3 g4 d1 d2 d3
    generalize (wr.alloc (.cells #[.string ds, .int .i64 j, .bool df, .bool dw, .bool true] 49)).alloc (.cells #[.slice F nf cf, .slice Gv ng cg] 25) = W5 at *
    generalize wr.alloc (.cells #[.string ds, .int .i64 j, .bool df, .bool dw, .bool true] 49) = W4 at *
    go_loopw [9, 10] (fun av kv wi => ∃ k : Nat, k ≤ nf ∧ kv = .int .i64 k ∧ av = .bool (inF ⟨ds, (j : Int), df, dw, true⟩ (m.f.take k)) ∧ Below W5.heap.size W5 wi) (fun _ kv _ => nf - (intOf kv).toNat)
    case atStart => exact ⟨0, Nat.zero_le _, rfl, rfl, Below.refl _ _⟩
    case round =>
      obtain ⟨k, hk, rfl, rfl, hbi⟩ := hrel
      have HBI := Lib.hid hbi
      obtain ⟨q0, q1, q2, q3, q4⟩ := HDC.out _ (bthen HB5.out hbi)
      obtain ⟨p0, p1⟩ := HMX.out _ hbi
      by_cases hlk : k < nf
      case neg =>
        have hdd : decide ((k : Int) < (nf : Int)) = false := by simp; omega
        have HTF := Lib.hid (show m.f.take k = m.f from List.take_of_length_le (by have := HNF.out; omega))
        rw [HTF.out]
        clear hbi p1 q0 q1 q2 q3 q4
        go_wp2_with fail
        clear p0
        go_loopw [9, 11] (fun av kv wi => ∃ k : Nat, k ≤ ng ∧ kv = .int .i64 k ∧ av = .bool (inF ⟨ds, (j : Int), df, dw, true⟩ m.f || inG ⟨ds, (j : Int), df, dw, true⟩ (m.g.take k)) ∧ Below W5.heap.size W5 wi) (fun _ kv _ => ng - (intOf kv).toNat)
        case atStart => exact ⟨0, Nat.zero_le _, rfl, by rw [List.take_zero, show inG ⟨ds, (j : Int), df, dw, true⟩ [] = false from rfl, Bool.or_false], HBI.out⟩
        case round =>
          obtain ⟨k, hk, rfl, rfl, hbi⟩ := hrel
          have HBI := Lib.hid hbi
          obtain ⟨q0, q1, q2, q3, q4⟩ := HDC.out _ (bthen HB5.out hbi)
          obtain ⟨p0, p1⟩ := HMX.out _ hbi
          by_cases hlk : k < ng
          case neg =>
            have hdd : decide ((k : Int) < (ng : Int)) = false := by simp; omega
            have HTG := Lib.hid (show m.g.take k = m.g from List.take_of_length_le (by have := HNG.out; omega))
            rw [HTG.out, HIN.out]
            have HBF := Lib.hid (bthen HBA.out (bthen HB5.out hbi))
            clear hbi p0 q0 q1 q2 q3 q4
            go_wp2_with fail
            go_roundw
            case rel => exact ⟨i + 1, HLT.out, by go_num, HBF.out⟩
            case measure => have := HLT.out; simp [intOf]; omega
          have hkm : k < m.g.length := by have := HNG.out; omega
          obtain ⟨b5, off5, hA5, hbl5, e0⟩ := RowOf.at_ (HG.out.next (bthen HBA.out (bthen HB5.out hbi))) hkm
          subst hA5
          obtain ⟨r0, r1, r2, -⟩ := e0
          have HTK := Lib.hid (show (inF ⟨ds, (j : Int), df, dw, true⟩ m.f || inG ⟨ds, (j : Int), df, dw, true⟩ (m.g.take (k + 1))) = ((inF ⟨ds, (j : Int), df, dw, true⟩ m.f || inG ⟨ds, (j : Int), df, dw, true⟩ (m.g.take k)) || (!df && (m.g[k].s == ds && (m.g[k].h && (dw || m.g[k].b == 2))))) by rw [inG_take hkm, Bool.or_assoc])
          obtain ⟨⟨s0, b0, h0, v0⟩, hx⟩ : ∃ x, m.g[k] = x := ⟨_, rfl⟩
          rw [hx] at r0 r1 r2 HTK
          dsimp only at r0 r1 r2 HTK
          obtain ⟨acc, hacc⟩ : ∃ b, (inF ⟨ds, (j : Int), df, dw, true⟩ m.f || inG ⟨ds, (j : Int), df, dw, true⟩ (m.g.take k)) = b := ⟨_, rfl⟩
          rw [hacc] at HTK ⊢
          have kk0 : (0 : Int) ≤ (k : Int) := Int.natCast_nonneg _
          have kk1 : (k : Int) < (ng : Int) := by omega
          have HLK := Lib.hid hlk
          clear hx hkm hlk hacc hbl5 hbi
          cases acc with
          | true =>
            have HV := Lib.hid (show (inF ⟨ds, (j : Int), df, dw, true⟩ m.f || inG ⟨ds, (j : Int), df, dw, true⟩ (m.g.take (k + 1))) = true from by rw [HTK.out]; rfl)
            go_wp2_with fail
            go_quiet (fail)
            have HBQ := Lib.hid (bthen HBI.out (drewN_below' wr nq))
            go_wp2_with fail
            go_roundw
            case rel => exact ⟨k + 1, HLK.out, by go_num, by rw [HV.out], HBQ.out⟩
            case measure => have := HLK.out; simp [intOf]; omega
          | false =>
            cases df with
            | true =>
              have HV := Lib.hid (show (inF ⟨ds, (j : Int), true, dw, true⟩ m.f || inG ⟨ds, (j : Int), true, dw, true⟩ (m.g.take (k + 1))) = false from by rw [HTK.out]; rfl)
              go_wp2_with fail
              go_quiet (fail)
              have HBQ := Lib.hid (bthen HBI.out (drewN_below' wr nq))
              go_wp2_with fail
              go_roundw
              case rel => exact ⟨k + 1, HLK.out, by go_num, by rw [HV.out], HBQ.out⟩
              case measure => have := HLK.out; simp [intOf]; omega
            | false =>
              by_cases e : s0 = ds
              · subst e
                have hst : (s0.toList == s0.toList) = true := by simp
                have hss : (s0 == s0) = true := ba_refl s0
                cases h0 with
                | false =>
                  have HV := Lib.hid (show (inF ⟨s0, (j : Int), false, dw, true⟩ m.f || inG ⟨s0, (j : Int), false, dw, true⟩ (m.g.take (k + 1))) = false from by rw [HTK.out, hss]; rfl)
                  go_wp2_with fail
                  go_quiet (fail)
                  have HBQ := Lib.hid (bthen HBI.out (drewN_below' wr nq))
                  go_wp2_with fail
                  go_roundw
                  case rel => exact ⟨k + 1, HLK.out, by go_num, by rw [HV.out], HBQ.out⟩
                  case measure => have := HLK.out; simp [intOf]; omega
                | true =>
                  cases dw with
                  | true =>
                    have HV := Lib.hid (show (inF ⟨s0, (j : Int), false, true, true⟩ m.f || inG ⟨s0, (j : Int), false, true, true⟩ (m.g.take (k + 1))) = true from by rw [HTK.out, hss]; rfl)
                    go_wp2_with fail
                    go_quiet (fail)
                    have HBQ := Lib.hid (bthen HBI.out (drewN_below' wr nq))
                    go_wp2_with fail
                    go_roundw
                    case rel => exact ⟨k + 1, HLK.out, by go_num, by rw [HV.out], HBQ.out⟩
                    case measure => have := HLK.out; simp [intOf]; omega
                  | false =>
                    by_cases e5 : b0 = 2
                    · subst e5
                      have HV := Lib.hid (show (inF ⟨s0, (j : Int), false, false, true⟩ m.f || inG ⟨s0, (j : Int), false, false, true⟩ (m.g.take (k + 1))) = true from by rw [HTK.out, hss]; rfl)
                      go_wp2_with fail
                      go_quiet (fail)
                      have HBQ := Lib.hid (bthen HBI.out (drewN_below' wr nq))
                      go_wp2_with fail
                      go_roundw
                      case rel => exact ⟨k + 1, HLK.out, by go_num, by rw [HV.out], HBQ.out⟩
                      case measure => have := HLK.out; simp [intOf]; omega
                    · have h5 : (b0 == 2) = false := by simpa using e5
                      have HV := Lib.hid (show (inF ⟨s0, (j : Int), false, false, true⟩ m.f || inG ⟨s0, (j : Int), false, false, true⟩ (m.g.take (k + 1))) = false from by rw [HTK.out, hss, h5]; rfl)
                      go_wp2_with fail
                      go_quiet (fail)
                      have HBQ := Lib.hid (bthen HBI.out (drewN_below' wr nq))
                      go_wp2_with fail
                      go_roundw
                      case rel => exact ⟨k + 1, HLK.out, by go_num, by rw [HV.out], HBQ.out⟩
                      case measure => have := HLK.out; simp [intOf]; omega
              · obtain ⟨hs1, hs2⟩ := str_otherD e
                have HV := Lib.hid (show (inF ⟨ds, (j : Int), false, dw, true⟩ m.f || inG ⟨ds, (j : Int), false, dw, true⟩ (m.g.take (k + 1))) = false from by rw [HTK.out, hs1]; rfl)
                go_wp2_with fail
                go_quiet (fail)
                have HBQ := Lib.hid (bthen HBI.out (drewN_below' wr nq))
                go_wp2_with fail
                go_roundw
                case rel => exact ⟨k + 1, HLK.out, by go_num, by rw [HV.out], HBQ.out⟩
                case measure => have := HLK.out; simp [intOf]; omega
      have hkm : k < m.f.length := by have := HNF.out; omega
      obtain ⟨b5, off5, hA5, hbl5, e0⟩ := RowOf.at_ (HF.out.next (bthen HBA.out (bthen HB5.out hbi))) hkm
      subst hA5
      obtain ⟨r0, r1, -, A4, z4, r3, -⟩ := e0
      have HTK := Lib.hid (inF_take (d := ⟨ds, (j : Int), df, dw, true⟩) hkm)
      obtain ⟨⟨s0, b0, p9, bl⟩, hx⟩ : ∃ x, m.f[k] = x := ⟨_, rfl⟩
      rw [hx] at r0 r1 r3 HTK
      dsimp only at r0 r1 r3 HTK
      obtain ⟨l4, hl4⟩ : ∃ l4, bl.length = l4 := ⟨_, rfl⟩
      rw [hl4] at r3 HTK
      have l40 : (0 : Int) ≤ (l4 : Int) := Int.natCast_nonneg _
      obtain ⟨acc, hacc⟩ : ∃ b, inF ⟨ds, (j : Int), df, dw, true⟩ (m.f.take k) = b := ⟨_, rfl⟩
      rw [hacc] at HTK ⊢
      have kk0 : (0 : Int) ≤ (k : Int) := Int.natCast_nonneg _
      have kk1 : (k : Int) < (nf : Int) := by omega
      have HLK := Lib.hid hlk
      clear hx hkm hlk hacc hbl5 hbi hl4
      cases acc with
      | true =>
        have HV := Lib.hid (show inF ⟨ds, (j : Int), df, dw, true⟩ (m.f.take (k + 1)) = true from by rw [HTK.out]; rfl)
        go_wp2_with fail
        go_quiet (fail)
        have HBQ := Lib.hid (bthen HBI.out (drewN_below' wr nq))
        go_wp2_with fail
        go_roundw
        case rel => exact ⟨k + 1, HLK.out, by go_num, by rw [HV.out], HBQ.out⟩
        case measure => have := HLK.out; simp [intOf]; omega
      | false =>
        cases df with
        | false =>
          have HV := Lib.hid (show inF ⟨ds, (j : Int), false, dw, true⟩ (m.f.take (k + 1)) = false from by rw [HTK.out]; rfl)
          go_wp2_with fail
          go_quiet (fail)
          have HBQ := Lib.hid (bthen HBI.out (drewN_below' wr nq))
          go_wp2_with fail
          go_roundw
          case rel => exact ⟨k + 1, HLK.out, by go_num, by rw [HV.out], HBQ.out⟩
          case measure => have := HLK.out; simp [intOf]; omega
        | true =>
          by_cases e : s0 = ds
          · subst e
            have hst : (s0.toList == s0.toList) = true := by simp
            have hss : (s0 == s0) = true := ba_refl s0
            by_cases e4 : l4 = 0
            · subst e4
              have HV := Lib.hid (show inF ⟨s0, (j : Int), true, dw, true⟩ (m.f.take (k + 1)) = false from by rw [HTK.out, hss]; rfl)
              go_wp2_with fail
              go_quiet (fail)
              have HBQ := Lib.hid (bthen HBI.out (drewN_below' wr nq))
              go_wp2_with fail
              go_roundw
              case rel => exact ⟨k + 1, HLK.out, by go_num, by rw [HV.out], HBQ.out⟩
              case measure => have := HLK.out; simp [intOf]; omega
            · have h4 : 0 < l4 := by omega
              have h4d : decide (0 < l4) = true := decide_eq_true h4
              cases dw with
              | true =>
                have HV := Lib.hid (show inF ⟨s0, (j : Int), true, true, true⟩ (m.f.take (k + 1)) = true from by rw [HTK.out, hss, h4d]; rfl)
                go_wp2_with fail
                go_quiet (fail)
                have HBQ := Lib.hid (bthen HBI.out (drewN_below' wr nq))
                go_wp2_with fail
                go_roundw
                case rel => exact ⟨k + 1, HLK.out, by go_num, by rw [HV.out], HBQ.out⟩
                case measure => have := HLK.out; simp [intOf]; omega
              | false =>
                by_cases e5 : b0 = 2
                · subst e5
                  have HV := Lib.hid (show inF ⟨s0, (j : Int), true, false, true⟩ (m.f.take (k + 1)) = true from by rw [HTK.out, hss, h4d]; rfl)
                  go_wp2_with fail
                  go_quiet (fail)
                  have HBQ := Lib.hid (bthen HBI.out (drewN_below' wr nq))
                  go_wp2_with fail
                  go_roundw
                  case rel => exact ⟨k + 1, HLK.out, by go_num, by rw [HV.out], HBQ.out⟩
                  case measure => have := HLK.out; simp [intOf]; omega
                · have h5 : (b0 == 2) = false := by simpa using e5
                  have HV := Lib.hid (show inF ⟨s0, (j : Int), true, false, true⟩ (m.f.take (k + 1)) = false from by rw [HTK.out, hss, h4d, h5]; rfl)
                  go_wp2_with fail
                  go_quiet (fail)
                  have HBQ := Lib.hid (bthen HBI.out (drewN_below' wr nq))
                  go_wp2_with fail
                  go_roundw
                  case rel => exact ⟨k + 1, HLK.out, by go_num, by rw [HV.out], HBQ.out⟩
                  case measure => have := HLK.out; simp [intOf]; omega
          · obtain ⟨hs1, hs2⟩ := str_otherD e
            have HV := Lib.hid (show inF ⟨ds, (j : Int), true, dw, true⟩ (m.f.take (k + 1)) = false from by rw [HTK.out, hs1]; rfl)
            go_wp2_with fail
            go_quiet (fail)
            have HBQ := Lib.hid (bthen HBI.out (drewN_below' wr nq))
            go_wp2_with fail
            go_roundw
            case rel => exact ⟨k + 1, HLK.out, by go_num, by rw [HV.out], HBQ.out⟩
            case measure => have := HLK.out; simp [intOf]; omega
end Go.Proofs.Ytniolkjeblocaaa
