/- Package bit: functions, globals and modules laid by a writer. -/
import Derived.Test.YtjldddpchiaalaaU8
namespace Go.Proofs.Ytjldddpchiaalaa
open Go.RowKit
namespace Q

theorem txL_len {s : ByteArray} (h : s.size ≤ 16) : (txL s).length ≤ 26 := by
  have a6 := numL_ten (v := s.size) (by omega)
  have a7 := size_data s
  unfold txL
  rw [List.length_append]
  omega
theorem fnL_len {f : Fn} (h : FnG f) : (fnL f).length ≤ 100000 := by
  have h1 := txL_len h.1
  have h2 := nL_len h.2.1
  have h3 := nL_len h.2.2.1
  have h4 : ∀ (l : List Bk), (∀ i ∈ l, BkG i) → (l.flatMap bkL).length ≤ 6000 * l.length := by
    intro l
    induction l with
    | nil => simp
    | cons i l ih =>
      intro hg
      have g1 := ih (fun x hx => hg x (by simp [hx]))
      have g2 := bkL_len (hg i (by simp))
      rw [List.flatMap_cons, List.length_append, List.length_cons]
      omega
  have h5 := h4 f.l h.2.2.2.2
  have h6 := h.2.2.2.1
  have h7 := numL_ten (v := f.l.length) (by omega)
  unfold fnL rowL
  simp only [List.length_append]
  omega
set_option maxRecDepth 100000 in
set_option maxHeartbeats 4000000 in
theorem mod1_put {w0 : World} {B b q x y : Nat} {l : List UInt8} {s : ByteArray} {bs : List Bk} {A0 : Option Addr} {n0 c0 : Nat} {W : World} (hB : w0.heap.size = B) (h : Lies B b W l W) (hw : Below B w0 W)
    (hbq : W.heap[q]? = some (.cells #[.pointer (some ⟨b, 0, none⟩)] 83 (0, 0))) (hqb : q ≠ b) (hG : FnG ⟨s, x, y, bs⟩) (hn0 : bs.length = n0) (hS0 : Blocks w0 (.slice A0 n0 c0) bs) (hl : l.length ≤ 96000000) :
    Calls Try.prog 34 #[.agg #[.string s, .int .i64 x, .int .i64 y, .slice A0 n0 c0], .pointer (some ⟨q, 0, none⟩)] W fun e w' => e = .returned (.tuple #[]) ∧ Lies B b W (l ++ fnL ⟨s, x, y, bs⟩) w' := by
  obtain ⟨ob, hob⟩ : ∃ o, Obj.cells #[.string s, .int .i64 x, .int .i64 y, .slice A0 n0 c0] 60 (0, 0) = o := ⟨_, rfl⟩
  have hr : W.heap.size ≠ b := box_lt h
  have hA := h.alloc ob
  have hqs : q < W.heap.size := (Array.getElem?_eq_some_iff.1 hbq).1
  have HR := Lib.hid hr
  have HQB := Lib.hid hqb
  have HBR := Lib.hid (show (W.alloc ob).heap[W.heap.size]? = some (.cells #[.string s, .int .i64 x, .int .i64 y, .slice A0 n0 c0] 60 (0, 0)) by rw [heap_alloc_new, hob])
  have HBQ := Lib.hid (show (W.alloc ob).heap[q]? = some (.cells #[.pointer (some ⟨b, 0, none⟩)] 83 (0, 0)) by rw [Lib.alloc_old W ob q hqs]; exact hbq)
  have cq : (W.alloc ob).cell? ⟨q, 0, none⟩ = some (.pointer (some ⟨b, 0, none⟩)) := by rw [Lib.cell_of_heap HBQ.out]; rfl
  have HA := Lib.hid hA
  have hfl := fnL_len hG
  obtain ⟨gs, gx, gy, gn, gb⟩ := hG
  simp only at gs gx gy gn gb
  have hx : (x : Int) ≤ 4294967295 := gx.2
  have hy : (y : Int) ≤ 4294967295 := gy.2
  have HE := Lib.hid (show l ++ fnL ⟨s, x, y, bs⟩ = l ++ txL s ++ (numL x ++ numL y) ++ rowL bkL bs by simp [fnL, nL, List.append_assoc])
  rw [HE.out]
  have hlen : (l ++ txL s ++ (numL x ++ numL y) ++ rowL bkL bs).length ≤ 96100000 := by rw [← HE.out, List.length_append]; omega
  simp only [List.length_append] at hlen
  have HC := Lib.hid (text_put hA.start gs (by omega))
  have H1 := Lib.hid (fun (U : World) (hU : Lies B b (W.alloc ob) (l ++ txL s) U) => two_put (v := x) (u := y) hU.start (by omega) (by omega) (by simp only [List.length_append]; omega))
  have H2 := Lib.hid (fun (U : World) (hU : Lies B b (W.alloc ob) (l ++ txL s ++ (numL x ++ numL y)) U) => blocks_put hB hU.start ((hw.trans hA.k.below).trans hU.k.below) hn0 (by omega) hS0 gb (by simp only [List.length_append]; omega))
  have wx : IntKind.u64.wrap (x : Int) = (x : Int) := IntWalk.u64_in _ (by omega)
  have wy : IntKind.u64.wrap (y : Int) = (y : Int) := IntWalk.u64_in _ (by omega)
  subst hob
  clear h hw hbq hqb hn0 hS0 hl hB hA hr hqs gs gx gy gn gb hlen hfl
  go_enter Try.func34, Try.ntmps34
  go_wp2_with fail
  refine (HC.out).mono ?_
  rintro e w1 ⟨rfl, h1⟩
  have G1 := Lib.hid (h1)
  have hc0 := G1.out.kept HBQ.out HQB.out (by decide)
  have d100 : w1.cell? ⟨q, 0, none⟩ = some (.pointer (some ⟨b, 0, none⟩)) := by rw [Lib.cell_of_heap hc0]; rfl
  clear hc0
  have hc1 := G1.out.kept HBR.out HR.out (by decide)
  have d111 : w1.cell? ⟨W.heap.size, 1, none⟩ = some (.int .i64 x) := by rw [Lib.cell_of_heap hc1]; rfl
  have d112 : w1.cell? ⟨W.heap.size, 2, none⟩ = some (.int .i64 y) := by rw [Lib.cell_of_heap hc1]; rfl
  clear hc1
  clear h1
  go_wp2_with fail
  refine (H1.out w1 G1.out).mono ?_
  rintro e w2 ⟨rfl, h2⟩
  have G2 := Lib.hid (G1.out.then_ h2)
  have hc0 := G2.out.kept HBQ.out HQB.out (by decide)
  have d200 : w2.cell? ⟨q, 0, none⟩ = some (.pointer (some ⟨b, 0, none⟩)) := by rw [Lib.cell_of_heap hc0]; rfl
  clear hc0
  have hc1 := G2.out.kept HBR.out HR.out (by decide)
  have d213 : w2.cell? ⟨W.heap.size, 3, none⟩ = some (.slice A0 n0 c0) := by rw [Lib.cell_of_heap hc1]; rfl
  clear hc1
  clear h2
  go_wp2_with fail
  refine (H2.out w2 G2.out).mono ?_
  rintro e w3 ⟨rfl, h3⟩
  have G3 := Lib.hid (G2.out.then_ h3)
  clear h3
  go_wp2_with fail
  go_end0
  exact ⟨rfl, HA.out.then_ G3.out⟩
set_option maxRecDepth 100000 in
set_option maxHeartbeats 4000000 in
theorem mod2_put_false {B b q x k : Nat} {l : List UInt8} {s : ByteArray} {W : World} (h : Lies B b W l W)
    (hbq : W.heap[q]? = some (.cells #[.pointer (some ⟨b, 0, none⟩)] 83 (0, 0))) (hqb : q ≠ b) (hs : s.size ≤ 16) (hx : x ≤ 4294967295) (hk : k ≤ 18446744073709551615) (hl : l.length ≤ 96000000) :
    Calls Try.prog 38 #[.agg #[.string s, .int .i64 x, .bool false, .int .u64 k], .pointer (some ⟨q, 0, none⟩)] W fun e w' => e = .returned (.tuple #[]) ∧ Lies B b W (l ++ glL ⟨s, x, false, k⟩) w' := by
  obtain ⟨ob, hob⟩ : ∃ o, Obj.cells #[.string s, .int .i64 x, .bool false, .int .u64 k] 62 (0, 0) = o := ⟨_, rfl⟩
  have hr : W.heap.size ≠ b := box_lt h
  have hA := h.alloc ob
  have hqs : q < W.heap.size := (Array.getElem?_eq_some_iff.1 hbq).1
  have HR := Lib.hid hr
  have HQB := Lib.hid hqb
  have HBR := Lib.hid (show (W.alloc ob).heap[W.heap.size]? = some (.cells #[.string s, .int .i64 x, .bool false, .int .u64 k] 62 (0, 0)) by rw [heap_alloc_new, hob])
  have HBQ := Lib.hid (show (W.alloc ob).heap[q]? = some (.cells #[.pointer (some ⟨b, 0, none⟩)] 83 (0, 0)) by rw [Lib.alloc_old W ob q hqs]; exact hbq)
  have cq : (W.alloc ob).cell? ⟨q, 0, none⟩ = some (.pointer (some ⟨b, 0, none⟩)) := by rw [Lib.cell_of_heap HBQ.out]; rfl
  have HA := Lib.hid hA
  have HE := Lib.hid (show l ++ glL ⟨s, x, false, k⟩ = l ++ txL s ++ (numL x ++ (nL 0 ++ numL k)) by simp [glL, hereN, nL, List.append_assoc])
  rw [HE.out]
  have hlen := txL_len hs
  have HC := Lib.hid (text_put hA.start hs (by omega))
  have H1 := Lib.hid (fun (U : World) (hU : Lies B b (W.alloc ob) (l ++ txL s) U) => three_putz (v := x) (x := k) 0 hU.start (by omega) (by omega) (by omega) (by omega) (by simp only [List.length_append]; omega))
  have wx : IntKind.u64.wrap (x : Int) = (x : Int) := IntWalk.u64_in _ (by omega)
  subst hob
  clear h hbq hqb hl hA hr hqs hs hx hk hlen
  go_enter Try.func38, Try.ntmps38
  go_wp2_with fail
  refine (HC.out).mono ?_
  rintro e w1 ⟨rfl, h1⟩
  have G1 := Lib.hid (h1)
  have hc0 := G1.out.kept HBQ.out HQB.out (by decide)
  have d100 : w1.cell? ⟨q, 0, none⟩ = some (.pointer (some ⟨b, 0, none⟩)) := by rw [Lib.cell_of_heap hc0]; rfl
  clear hc0
  have hc1 := G1.out.kept HBR.out HR.out (by decide)
  have d111 : w1.cell? ⟨W.heap.size, 1, none⟩ = some (.int .i64 x) := by rw [Lib.cell_of_heap hc1]; rfl
  have d113 : w1.cell? ⟨W.heap.size, 3, none⟩ = some (.int .u64 k) := by rw [Lib.cell_of_heap hc1]; rfl
  clear hc1
  clear h1
  go_wp2_with fail
  refine (H1.out w1 G1.out).mono ?_
  rintro e w2 ⟨rfl, h2⟩
  have G2 := Lib.hid (G1.out.then_ h2)
  clear h2
  go_wp2_with fail
  go_end0
  exact ⟨rfl, HA.out.then_ G2.out⟩
set_option maxRecDepth 100000 in
set_option maxHeartbeats 4000000 in
theorem mod2_put_true {B b q x k : Nat} {l : List UInt8} {s : ByteArray} {W : World} (h : Lies B b W l W)
    (hbq : W.heap[q]? = some (.cells #[.pointer (some ⟨b, 0, none⟩)] 83 (0, 0))) (hqb : q ≠ b) (hs : s.size ≤ 16) (hx : x ≤ 4294967295) (hk : k ≤ 18446744073709551615) (hl : l.length ≤ 96000000) :
    Calls Try.prog 38 #[.agg #[.string s, .int .i64 x, .bool true, .int .u64 k], .pointer (some ⟨q, 0, none⟩)] W fun e w' => e = .returned (.tuple #[]) ∧ Lies B b W (l ++ glL ⟨s, x, true, k⟩) w' := by
  obtain ⟨ob, hob⟩ : ∃ o, Obj.cells #[.string s, .int .i64 x, .bool true, .int .u64 k] 62 (0, 0) = o := ⟨_, rfl⟩
  have hr : W.heap.size ≠ b := box_lt h
  have hA := h.alloc ob
  have hqs : q < W.heap.size := (Array.getElem?_eq_some_iff.1 hbq).1
  have HR := Lib.hid hr
  have HQB := Lib.hid hqb
  have HBR := Lib.hid (show (W.alloc ob).heap[W.heap.size]? = some (.cells #[.string s, .int .i64 x, .bool true, .int .u64 k] 62 (0, 0)) by rw [heap_alloc_new, hob])
  have HBQ := Lib.hid (show (W.alloc ob).heap[q]? = some (.cells #[.pointer (some ⟨b, 0, none⟩)] 83 (0, 0)) by rw [Lib.alloc_old W ob q hqs]; exact hbq)
  have cq : (W.alloc ob).cell? ⟨q, 0, none⟩ = some (.pointer (some ⟨b, 0, none⟩)) := by rw [Lib.cell_of_heap HBQ.out]; rfl
  have HA := Lib.hid hA
  have HE := Lib.hid (show l ++ glL ⟨s, x, true, k⟩ = l ++ txL s ++ (numL x ++ (nL 1 ++ numL k)) by simp [glL, hereN, nL, List.append_assoc])
  rw [HE.out]
  have hlen := txL_len hs
  have HC := Lib.hid (text_put hA.start hs (by omega))
  have H1 := Lib.hid (fun (U : World) (hU : Lies B b (W.alloc ob) (l ++ txL s) U) => three_putz (v := x) (x := k) 1 hU.start (by omega) (by omega) (by omega) (by omega) (by simp only [List.length_append]; omega))
  have wx : IntKind.u64.wrap (x : Int) = (x : Int) := IntWalk.u64_in _ (by omega)
  subst hob
  clear h hbq hqb hl hA hr hqs hs hx hk hlen
  go_enter Try.func38, Try.ntmps38
  go_wp2_with fail
  refine (HC.out).mono ?_
  rintro e w1 ⟨rfl, h1⟩
  have G1 := Lib.hid (h1)
  have hc0 := G1.out.kept HBQ.out HQB.out (by decide)
  have d100 : w1.cell? ⟨q, 0, none⟩ = some (.pointer (some ⟨b, 0, none⟩)) := by rw [Lib.cell_of_heap hc0]; rfl
  clear hc0
  have hc1 := G1.out.kept HBR.out HR.out (by decide)
  have d111 : w1.cell? ⟨W.heap.size, 1, none⟩ = some (.int .i64 x) := by rw [Lib.cell_of_heap hc1]; rfl
  have d113 : w1.cell? ⟨W.heap.size, 3, none⟩ = some (.int .u64 k) := by rw [Lib.cell_of_heap hc1]; rfl
  clear hc1
  clear h1
  go_wp2_with fail
  refine (H1.out w1 G1.out).mono ?_
  rintro e w2 ⟨rfl, h2⟩
  have G2 := Lib.hid (G1.out.then_ h2)
  clear h2
  go_wp2_with fail
  go_end0
  exact ⟨rfl, HA.out.then_ G2.out⟩
theorem glL_len {g : Gl} (h : GlN g) : (glL g).length ≤ 100 := by
  have h1 := txL_len h.1
  have h2 := nL_len h.2.1
  have h3 : (nL g.i).length ≤ 10 := numL_ten (by have := h.2.2.2; have := h.2.2.1; omega)
  have h4 : (numL (hereN g.h)).length ≤ 10 := numL_ten (by unfold hereN; split <;> omega)
  unfold glL
  simp only [List.length_append]
  omega
theorem fns_len : ∀ (l : List Fn), (∀ i ∈ l, FnG i) → (l.flatMap fnL).length ≤ 100000 * l.length
  | [], _ => by simp
  | i :: l, hg => by
    have g1 := fns_len l (fun x hx => hg x (by simp [hx]))
    have g2 := fnL_len (hg i (by simp))
    rw [List.flatMap_cons, List.length_append, List.length_cons]
    omega
theorem gls_len : ∀ (l : List Gl), (∀ i ∈ l, GlN i) → (l.flatMap glL).length ≤ 100 * l.length
  | [], _ => by simp
  | i :: l, hg => by
    have g1 := gls_len l (fun x hx => hg x (by simp [hx]))
    have g2 := glL_len (hg i (by simp))
    rw [List.flatMap_cons, List.length_append, List.length_cons]
    omega
theorem mdL_len {m : Md} (h : MdG m) : (rowL fnL m.f).length + (rowL glL m.g).length ≤ 2000000 := by
  obtain ⟨⟨h1, h2⟩, h3, h4⟩ := h
  have a1 := fns_len m.f h2
  have a2 := gls_len m.g h4
  have a3 := numL_ten (v := m.f.length) (by omega)
  have a4 := numL_ten (v := m.g.length) (by omega)
  unfold rowL
  simp only [List.length_append]
  omega
set_option maxRecDepth 100000 in
set_option maxHeartbeats 4000000 in
theorem module_put {w0 : World} {B b : Nat} {m : Md} {F G : Option Addr} {nf cf ng cg : Nat} {W : World} (hB : w0.heap.size = B) (h : Lies B b W [] W) (hw : Below B w0 W) (hG : MdG m) (hnf : m.f.length = nf) (hng : m.g.length = ng) (hS : MdAt w0 (.slice F nf cf) (.slice G ng cg) m) :
    Calls Try.prog 15 #[.pointer (some ⟨b, 0, none⟩), .agg #[.slice F nf cf, .slice G ng cg]] W fun e w' => e = .returned (.tuple #[]) ∧ Lies B b W (mdL m) w' := by
  obtain ⟨o, ho⟩ : ∃ o, Obj.cells #[.pointer (some ⟨b, 0, none⟩)] 83 (0, 0) = o := ⟨_, rfl⟩
  obtain ⟨ob, hob⟩ : ∃ o, Obj.cells #[.slice F nf cf, .slice G ng cg] 25 (0, 0) = o := ⟨_, rfl⟩
  have hq : W.heap.size ≠ b := box_lt h
  have hA0 := h.alloc o
  have hr : (W.alloc o).heap.size ≠ b := box_lt hA0
  have hA := hA0.alloc ob
  have HA := Lib.hid hA
  have HQB := Lib.hid hq
  have HR := Lib.hid hr
  have HBQ := Lib.hid (show ((W.alloc o).alloc ob).heap[W.heap.size]? = some (.cells #[.pointer (some ⟨b, 0, none⟩)] 83 (0, 0)) by
    rw [Lib.alloc_old _ ob _ (by rw [World.size_alloc]; exact Nat.lt_succ_self _), heap_alloc_new, ho])
  have HBR := Lib.hid (show ((W.alloc o).alloc ob).heap[(W.alloc o).heap.size]? = some (.cells #[.slice F nf cf, .slice G ng cg] 25 (0, 0)) by rw [heap_alloc_new, hob])
  rw [World.size_alloc] at HBR HR
  have hlen := mdL_len hG
  obtain ⟨⟨hl1, hf⟩, hl2, hg⟩ := hG
  have hw1 := hw.trans hA.k.below
  have HC := Lib.hid (fstr_any B b [] ⟨#[77, 73, 82, 49]⟩ ((W.alloc o).alloc ob) hA.f (by decide) hA.s)
  have H1 := Lib.hid (fun (U : World) (hU : Lies B b ((W.alloc o).alloc ob) [77, 73, 82, 49] U) => layFns_any fnL 34 #[] #[.pointer (some ⟨W.heap.size, 0, none⟩)] w0 B b [77, 73, 82, 49] m.f F nf cf U hB hU.start (hw1.trans hU.k.below) hnf (by omega) hS.1 96000000 (by decide)
    (by simp only [List.length_cons, List.length_nil]; omega) cf_mod1 (fun x hxm A0 c0 hI l' U' hU' hle => by
      have hg := hf x hxm
      obtain ⟨s, x1, x2, bs⟩ := x
      obtain ⟨x1, rfl⟩ : ∃ z : Nat, x1 = z := ⟨x1.toNat, by have := hg.2.1.1; simp only at this; omega⟩
      obtain ⟨x2, rfl⟩ : ∃ z : Nat, x2 = z := ⟨x2.toNat, by have := hg.2.2.1.1; simp only at this; omega⟩
      exact mod1_put hB hU'.start ((hw1.trans hU.k.below).trans hU'.k.below) (hU'.kept (hU.kept HBQ.out hq (by decide)) hq (by decide)) hq hg rfl hI (by omega)))
  have H2 := Lib.hid (fun (U : World) (hU : Lies B b ((W.alloc o).alloc ob) ([77, 73, 82, 49] ++ rowL fnL m.f) U) => layGls_any glL 38 #[] #[.pointer (some ⟨W.heap.size, 0, none⟩)] w0 B b ([77, 73, 82, 49] ++ rowL fnL m.f) m.g G ng cg U hB hU.start (hw1.trans hU.k.below) hng (by omega) hS.2 96000000 (by decide)
    (by simp only [List.length_append, List.length_cons, List.length_nil]; omega) cf_mod2 (fun x hxm l' U' hU' hle => by
      have hgx := hg x hxm
      obtain ⟨s, x1, hh, k⟩ := x
      obtain ⟨x1, rfl⟩ : ∃ z : Nat, x1 = z := ⟨x1.toNat, by have := hgx.2.1.1; simp only at this; omega⟩
      obtain ⟨k, rfl⟩ : ∃ z : Nat, k = z := ⟨k.toNat, by have := hgx.2.2.1; simp only at this; omega⟩
      have e1 : x1 ≤ 4294967295 := by have := hgx.2.1.2; simp only at this; omega
      have e2 : k ≤ 18446744073709551615 := by have := hgx.2.2.2; simp only at this; omega
      have hb2 := hU'.kept (hU.kept HBQ.out hq (by decide)) hq (by decide)
      cases hh
      · exact mod2_put_false hU'.start hb2 hq hgx.1 e1 e2 (by omega)
      · exact mod2_put_true hU'.start hb2 hq hgx.1 e1 e2 (by omega)))
  have c0 : ((W.alloc o).alloc ob).cell? ⟨W.heap.size, 0, none⟩ = some (.pointer (some ⟨b, 0, none⟩)) := by rw [Lib.cell_of_heap HBQ.out]; rfl
  subst ho hob
  clear h hw hnf hng hS hB hA hA0 hq hr hlen hl1 hf hl2 hg hw1
  go_enter Try.func15, Try.ntmps15
  go_wp2_with fail
  refine HC.out.mono ?_
  rintro e w1 ⟨rfl, h2, h3, h4⟩
  have G1 := Lib.hid (show Lies B b _ [77, 73, 82, 49] w1 from ⟨h2.fl, HA.out.start.k.trans ⟨h3, h4⟩, Nat.le_trans HA.out.s h3.size⟩)
  have hcq := G1.out.kept HBQ.out HQB.out (by decide)
  have d1 : w1.cell? ⟨W.heap.size, 0, none⟩ = some (.pointer (some ⟨b, 0, none⟩)) := by rw [Lib.cell_of_heap hcq]; rfl
  have hcr := G1.out.kept HBR.out HR.out (by decide)
  have d2 : w1.cell? ⟨W.heap.size + 1, 0, none⟩ = some (.slice F nf cf) := by rw [Lib.cell_of_heap hcr]; rfl
  clear h2 h3 h4 hcq hcr
  go_wp2_with fail
  refine (H1.out w1 G1.out).mono ?_
  rintro e w2 ⟨rfl, h2⟩
  have G2 := Lib.hid (G1.out.then_ h2)
  have hcq := G2.out.kept HBQ.out HQB.out (by decide)
  have e1 : w2.cell? ⟨W.heap.size, 0, none⟩ = some (.pointer (some ⟨b, 0, none⟩)) := by rw [Lib.cell_of_heap hcq]; rfl
  have hcr := G2.out.kept HBR.out HR.out (by decide)
  have e2 : w2.cell? ⟨W.heap.size + 1, 1, none⟩ = some (.slice G ng cg) := by rw [Lib.cell_of_heap hcr]; rfl
  clear h2 hcq hcr
  go_wp2_with fail
  refine (H2.out w2 G2.out).mono ?_
  rintro e w3 ⟨rfl, h3⟩
  have G3 := Lib.hid (HA.out.then_ (G2.out.then_ h3))
  clear h3
  go_wp2_with fail
  go_end0
  exact ⟨rfl, by unfold mdL; exact G3.out⟩
end Q
end Go.Proofs.Ytjldddpchiaalaa
