/- Package reach: names are visited, deepest first: a closure that calls itself. -/
import Derived.Test.YtoglmdadpchhoaaR3
import Derived.Maps.AppendAt
namespace Go.Proofs.Ytoglmdadpchhoaa
open Go.RowKit Go.Shelf

theorem app_name2 {ops : Array Oper} {rest : List Oper} {o : Oper} {a : Act} {Q : Exit → Act → World → Prop} (hgd : o.guard = none) (s x : Operand) (ho : o.op = .call { callee := .builtin .append, args := #[s, x], argTypes := #[45, 45] })
    (U W : World) (y : ByteArray) (hU : U = W.alloc (.cells #[.string y] 9)) (base : Nat) (A0 : Option Addr) (nL z0 : Nat) (L : List ByteArray) (hn : L.length = nL) (hs : a.eval s = .slice A0 nL z0) (b1 : Nat) (hb1 : W.heap.size = b1) (hx : a.eval x = .slice (some ⟨b1, 0, none⟩) 1 1) (hO : OwnsN W base (.slice A0 nL z0) L) (h16 : (nL + 1) * 16 ≤ 140737488355328) (hbase : base ≤ W.heap.size)
    (h : ∀ A' z' w', OwnsN w' base (.slice A' (nL + 1) z') (L ++ [y]) → W.grownBy w' (Value.slice A0 nL z0).ownBlock → ((Value.slice A' (nL + 1) z').ownBlock = (Value.slice A0 nL z0).ownBlock ∨ ∀ g, (Value.slice A' (nL + 1) z').ownBlock = some g → W.heap.size ≤ g) → wpList Try.prog ops Q rest (a.put o.dst (.slice A' (nL + 1) z')) w') : wpList Try.prog ops Q (o :: rest) a U := by
  subst hU hn hb1
  obtain ⟨i0, hi, hz0, hz1, hz2⟩ := info_parts str_info
  have hO2 : (W.alloc (.cells #[.string y] 9)).ownsRow base 9 1 (.slice A0 L.length z0) L.length (strRow L) := World.ownsRow.alloc (show W.ownsRow base 9 1 (.slice A0 L.length z0) L.length (strRow L) from hO) _
  refine wpList_append_own_at (P := Try.prog) _ hgd s x 45 ho base 9 i0 (.string ⟨#[]⟩) 1 16 Try.underlying45 hi hz0 hz1 hz2 rfl (by decide) _ L.length (strRow L) hs hO2 ⟨W.heap.size, 0, none⟩ 1 1 [.string y] hx rfl (fun j u hj => ?_) (fun u hu => by rw [List.mem_singleton.1 hu]; rfl) (by unfold maxLen; omega) (by omega) (by simp; omega) (fun v' w' h1 h2 _ h4 => ?_)
  · have hj0 : j = 0 := by have := (List.getElem?_eq_some_iff.1 hj).1; simpa using this
    subst hj0
    simp only [List.getElem?_cons_zero, Option.some.injEq] at hj
    subst hj
    rw [show (⟨W.heap.size, 0, none⟩ : Addr).add 0 = ⟨W.heap.size, 0, none⟩ from rfl]
    exact Lib.cell_of_heap (heap_alloc_new W (.cells #[.string y] 9)) 0
  · have h3 : OwnsN w' base v' (L ++ [y]) := by
      unfold OwnsN strRow
      rw [List.length_append, List.map_append]
      exact h1
    obtain ⟨A', z', e⟩ := h3.form
    rw [List.length_append] at e
    subst e
    refine h A' z' w' h3 ⟨h2.os, h2.tape, h2.output, by have := h2.size; simp at this; omega, fun k hk hn => (h2.block k (by simp; omega) hn).trans (World.grownBy_alloc W _ none |>.block k hk (by simp))⟩ ?_
    rcases h4 with h4 | h4
    · exact .inl h4
    · refine .inr fun g e => ?_
      have e2 : some (W.alloc (.cells #[.string y] 9)).heap.size = some g := h4.symm.trans e
      simp at e2
      omega
/-- where visits stand: B: the first of their five blocks; o: how many are open; v: the row of what was told -/
structure VSt (w0 : World) (U : List ByteArray) (lv : Value) (o : Nat) (s : List ByteArray × List ByteArray) (v : Value) (W : World) : Prop where
  hl : W.cell? ⟨w0.heap.size, 0, none⟩ = some lv
  ho : Whole W (w0.heap.size + 1) 45 #[v]
  hr : OwnsN W (w0.heap.size + 5) v s.2
  hm : SetAt W (w0.heap.size + 2) s.1.length s.1
  hp : W.cell? ⟨w0.heap.size + 3, 0, none⟩ = some (.map (some (w0.heap.size + 2)))
  hv : W.cell? ⟨w0.heap.size + 4, 0, none⟩ = some (.func (.func 80) #[] #[.pointer (some ⟨w0.heap.size + 3, 0, none⟩), .pointer (some ⟨w0.heap.size, 0, none⟩), .pointer (some ⟨w0.heap.size + 4, 0, none⟩), .pointer (some ⟨w0.heap.size + 1, 0, none⟩)])
  hw : Below w0.heap.size w0 W
  sz : w0.heap.size + 5 ≤ W.heap.size
  le : s.1.length + leftE U s.1 ≤ U.length
  op : s.2.length + o ≤ s.1.length
/-- what visits change -/
structure VFr (B : Nat) (W : World) (v : Value) (W' : World) (v' : Value) : Prop where
  os : W'.os = W.os
  tape : W'.tape = W.tape
  output : W'.output = W.output
  size : W.heap.size ≤ W'.heap.size
  blk : ∀ b, b < W.heap.size → b ≠ B + 1 → b ≠ B + 2 → some b ≠ v.ownBlock → W'.heap[b]? = W.heap[b]?
  own : v'.ownBlock = v.ownBlock ∨ ∀ g, v'.ownBlock = some g → W.heap.size ≤ g
theorem VFr.refl (B : Nat) (W : World) (v : Value) : VFr B W v W v := ⟨rfl, rfl, rfl, Nat.le_refl _, fun _ _ _ _ _ => rfl, .inl rfl⟩
theorem VFr.trans {B : Nat} {W W' W'' : World} {v v' v'' : Value} (h : VFr B W v W' v') (k : VFr B W' v' W'' v'') : VFr B W v W'' v'' := by
  refine ⟨k.os.trans h.os, k.tape.trans h.tape, k.output.trans h.output, Nat.le_trans h.size k.size, fun b b1 b2 b3 b4 => ?_, ?_⟩
  · refine (k.blk b (Nat.lt_of_lt_of_le b1 h.size) b2 b3 (fun e => ?_)).trans (h.blk b b1 b2 b3 b4)
    rcases h.own with h5 | h5
    · rw [h5] at e; exact b4 e
    · have := h5 b e.symm; omega
  · rcases k.own with k5 | k5
    · rw [k5]; exact h.own
    · exact .inr fun g e => Nat.le_trans h.size (k5 g e)
theorem VFr.below {B : Nat} {W W' : World} {v : Value} (h : Below W.heap.size W W') : VFr B W v W' v := ⟨h.os, h.tape, h.output, h.size, fun b b1 _ _ _ => h.block b b1, .inl rfl⟩
theorem VSt.call {w0 W W' : World} {U : List ByteArray} {lv : Value} {o : Nat} {s : List ByteArray × List ByteArray} {v : Value} (h : VSt w0 U lv o s v W) (hb : Below W.heap.size W W') : VSt w0 U lv o s v W' := by
  have hz := h.sz
  exact ⟨(cellNext (by omega) hb _).trans h.hl, h.ho.next hb, h.hr.call hb, h.hm.same (hb.block _ (by omega)), (cellNext (by omega) hb _).trans h.hp, (cellNext (by omega) hb _).trans h.hv, bthen h.hw hb, Nat.le_trans hz hb.size, h.le, h.op⟩
/-- a name is met -/
theorem VSt.meet {w0 W W' : World} {U : List ByteArray} {lv : Value} {o : Nat} {s : List ByteArray × List ByteArray} {v : Value} {n : ByteArray} (h : VSt w0 U lv o s v W) (hu : n ∈ U) (hn : n ∉ s.1) (hm : W'.ownsMap Try.prog 9 unitElem (w0.heap.size + 2) (s.1.length + 1) ((setD s.1).put (slit n) (.agg []))) (hg : W.grownBy W' (some (w0.heap.size + 2))) :
    VSt w0 U lv (o + 1) (s.1 ++ [n], s.2) v W' ∧ VFr w0.heap.size W v W' v := by
  have hz := h.sz
  have bk : ∀ b, b < W.heap.size → b ≠ w0.heap.size + 2 → W'.heap[b]? = W.heap[b]? := fun b b1 b2 => hg.block b b1 (fun e => b2 (Option.some.inj e))
  have cl : ∀ b, b < W.heap.size → b ≠ w0.heap.size + 2 → W'.cell? ⟨b, 0, none⟩ = W.cell? ⟨b, 0, none⟩ := fun b b1 b2 => World.cell?_of_block (bk b b1 b2)
  refine ⟨⟨(cl _ (by omega) (by omega)).trans h.hl, (bk _ (by omega) (by omega)).trans h.ho, ?_, ?_, (cl _ (by omega) (by omega)).trans h.hp, (cl _ (by omega) (by omega)).trans h.hv, ?_, Nat.le_trans hz hg.size, ?_, ?_⟩, ⟨hg.os, hg.tape, hg.output, hg.size, fun b b1 _ b3 _ => bk b b1 b3, .inl rfl⟩⟩
  · refine ownsN_kept h.hr hg ?_
    by_cases e : v.ownBlock = none
    · exact .inl e
    · refine .inr fun e => ?_
      have := (h.hr.block _ e).1
      omega
  · show W'.ownsMap Try.prog 9 unitElem (w0.heap.size + 2) (s.1 ++ [n]).length (setD (s.1 ++ [n]))
    rw [setD_snoc, List.length_append]
    exact hm
  · exact below_turned h.hw hg (by omega) (by omega)
  · have h1 := h.le
    have h2 := leftE_less hu hn
    simp only [List.length_append, List.length_singleton]
    omega
  · have := h.op
    simp only [List.length_append, List.length_singleton]
    omega
/-- a name is told -/
theorem VSt.tell {w0 W W' : World} {U : List ByteArray} {lv : Value} {o : Nat} {s : List ByteArray × List ByteArray} {v v' : Value} {n : ByteArray} (h : VSt w0 U lv (o + 1) s v W) (hr : OwnsN W' (w0.heap.size + 5) v' (s.2 ++ [n])) (hg : W.grownBy W' v.ownBlock) (hown : v'.ownBlock = v.ownBlock ∨ ∀ g, v'.ownBlock = some g → W.heap.size ≤ g) :
    VSt w0 U lv o (s.1, s.2 ++ [n]) v' (W'.setCell ⟨w0.heap.size + 1, 0, none⟩ v') ∧ VFr w0.heap.size W v (W'.setCell ⟨w0.heap.size + 1, 0, none⟩ v') v' := by
  have hz := h.sz
  have hnb : ∀ b, b < w0.heap.size + 5 → some b ≠ v.ownBlock := fun b b1 e => by
    have := (h.hr.block b e.symm).1
    omega
  have bk : ∀ b, b < W.heap.size → b ≠ w0.heap.size + 1 → some b ≠ v.ownBlock → (W'.setCell ⟨w0.heap.size + 1, 0, none⟩ v').heap[b]? = W.heap[b]? := fun b b1 b2 b3 => (Below.heap_setCell _ _ _ _ (by simpa using b2)).trans (hg.block b b1 b3)
  have cl : ∀ b, b < w0.heap.size + 5 → b ≠ w0.heap.size + 1 → (W'.setCell ⟨w0.heap.size + 1, 0, none⟩ v').cell? ⟨b, 0, none⟩ = W.cell? ⟨b, 0, none⟩ := fun b b1 b2 => World.cell?_of_block (bk b (by omega) b2 (hnb b b1))
  have hbo : Whole W' (w0.heap.size + 1) 45 #[v] := (hg.block _ (by omega) (hnb _ (by omega))).trans h.ho
  refine ⟨⟨(cl _ (by omega) (by omega)).trans h.hl, hbo.put 0 v', ?_, h.hm.same (bk _ (by omega) (by omega) (hnb _ (by omega))), (cl _ (by omega) (by omega)).trans h.hp, (cl _ (by omega) (by omega)).trans h.hv, ?_, by have := hg.size; simp; omega, h.le, ?_⟩, ⟨hg.os, hg.tape, hg.output, by have := hg.size; simpa using this, fun b b1 b2 _ b4 => bk b b1 b2 b4, hown⟩⟩
  · refine ownsN_kept hr (setc_grown W' ⟨w0.heap.size + 1, 0, none⟩ v') ?_
    by_cases e : v'.ownBlock = none
    · exact .inl e
    · refine .inr fun e => ?_
      have h2 := (hr.block _ e).1
      simp only at h2
      omega
  · refine below_setc (h.hw.trans ⟨hg.os, hg.tape, hg.output, hg.size, fun k hk => hg.block k (by omega) (hnb k (by omega))⟩) (by simp)
  · have := h.op
    simp only [List.length_append, List.length_singleton]
    omega
theorem Strs.frame {B : Nat} {w1 W : World} {v v' rv : Value} {L : List ByteArray} {base : Nat} (h : OwnsN w1 base rv L) (hf : VFr B w1 v W v') (hB : B + 5 ≤ base) (hv : ∀ g, v.ownBlock = some g → g < base) : Strs W rv L := by
  have h' : w1.ownsRow base 9 1 rv L.length (strRow L) := h
  have h2 : OwnsN W base rv L := by
    show W.ownsRow base 9 1 rv L.length (strRow L)
    rcases h' with ⟨e1, e2 | ⟨g, cap, cur, hvv, hge, hh, r⟩⟩
    · exact ⟨e1, .inl e2⟩
    · have hg := (Array.getElem?_eq_some_iff.1 hh).1
      exact ⟨e1, .inr ⟨g, cap, cur, hvv, hge, (hf.blk g hg (by omega) (by omega) (fun e => by have := hv g e.symm; omega)).trans hh, r⟩⟩
  exact h2.strs
set_option maxRecDepth 100000 in
set_option maxHeartbeats 16000000 in
theorem visit_any (w0 : World) (U : List ByteArray) (Lf : ByteArray → List ByteArray) (gl : FuncId) (bd caps : Array Value) (hU : ∀ x ∈ U, ∀ y ∈ Lf x, y ∈ U) (hk9 : ∀ x ∈ U, x.size < 9223372036854775808) (hU9 : U.length ≤ 2097152) (hL9 : ∀ x ∈ U, (Lf x).length ≤ 2097152)
    (hcf : ∀ args W, (callFunc gl args).run Try.prog W = .ok (.enter gl args) W)
    (hC : ∀ x ∈ U, ∀ W, Below w0.heap.size w0 W → w0.heap.size + 5 ≤ W.heap.size → Calls Try.prog gl (bd ++ #[.string x] ++ caps) W (MadeN (Lf x) W)) :
    ∀ (k : Nat) (n : ByteArray) (o : Nat) (s : List ByteArray × List ByteArray) (v : Value) (W : World), n ∈ U → leftE U s.1 ≤ k → VSt w0 U (.func (.func gl) bd caps) o s v W →
      Calls Try.prog 80 #[.string n, .pointer (some ⟨w0.heap.size + 3, 0, none⟩), .pointer (some ⟨w0.heap.size, 0, none⟩), .pointer (some ⟨w0.heap.size + 4, 0, none⟩), .pointer (some ⟨w0.heap.size + 1, 0, none⟩)] W fun e w' => e = .returned (.tuple #[]) ∧ ∃ v', VSt w0 U (.func (.func gl) bd caps) o (visitE Lf k n s) v' w' ∧ VFr w0.heap.size W v w' v' := by
  intro k
  induction k with
  | zero =>
    intro n o s v W hn hle hst
    have hin : n ∈ s.1 := Decidable.byContradiction fun h => by have := leftE_less hn h; omega
    have hhas := set_has s.1 n
    rw [decide_eq_true hin] at hhas
    have HK := Lib.hid (skey_of (hk9 n hn))
    have HM := Lib.hid (show W.ownsMap Try.prog 9 unitElem (w0.heap.size + 2) s.1.length (setD s.1) from hst.hm)
    have HST := Lib.hid hst
    have c3 := hst.hp
    have HV := Lib.hid (show visitE Lf 0 n s = s from rfl)
    clear hst hin hle hC hcf
    go_enter Try.func80, Try.ntmps80
    go_wp2_with (at_lookup; refine wpList_lookup_own_unit _ rfl _ _ 82 rfl 9 87 skeyed Try.underlying82 (Try.zeroValue87 _) (w0.heap.size + 2) s.1.length _ rfl HM.out _ _ rfl HK.out ?_)
    refine bodyPost_ret (results_none Try.results80 _ _ _) rfl ?_
    exact ⟨rfl, v, by rw [HV.out]; exact HST.out.call (balloc (Below.refl _ W) _), VFr.below (balloc (Below.refl _ W) _)⟩
  | succ k ih =>
    intro n o s v W hn hle hst
    by_cases hin : n ∈ s.1
    · have hhas := set_has s.1 n
      rw [decide_eq_true hin] at hhas
      have HK := Lib.hid (skey_of (hk9 n hn))
      have HM := Lib.hid (show W.ownsMap Try.prog 9 unitElem (w0.heap.size + 2) s.1.length (setD s.1) from hst.hm)
      have HST := Lib.hid hst
      have c3 := hst.hp
      have HV := Lib.hid (visitE_met Lf (k + 1) n s hin)
      clear hst hin hle hC hcf ih
      go_enter Try.func80, Try.ntmps80
      go_wp2_with (at_lookup; refine wpList_lookup_own_unit _ rfl _ _ 82 rfl 9 87 skeyed Try.underlying82 (Try.zeroValue87 _) (w0.heap.size + 2) s.1.length _ rfl HM.out _ _ rfl HK.out ?_)
      refine bodyPost_ret (results_none Try.results80 _ _ _) rfl ?_
      exact ⟨rfl, v, by rw [HV.out]; exact HST.out.call (balloc (Below.refl _ W) _), VFr.below (balloc (Below.refl _ W) _)⟩
    · have hhas := set_has s.1 n
      rw [decide_eq_false hin] at hhas
      have HK := Lib.hid (skey_of (hk9 n hn))
      have HM := Lib.hid (show W.ownsMap Try.prog 9 unitElem (w0.heap.size + 2) s.1.length (setD s.1) from hst.hm)
      have c3 := hst.hp
      have HV := Lib.hid (visitE_new Lf k n s hin)
      have HNN := Lib.hid hin
      have HUN := Lib.hid hn
      have HLL := Lib.hid (show leftE U (s.1 ++ [n]) ≤ k by have := leftE_less hn hin; omega)
      have HIH := Lib.hid ih
      have HC := Lib.hid (hC n hn)
      have HUU := Lib.hid (fun y hy => hU n hn y hy)
      have HL9 := Lib.hid (hL9 n hn)
      have HCF := Lib.hid hcf
      have HSB := Lib.hid (fun (i : Nat) => show leftE U (deepE Lf k ((Lf n).take i) (s.1 ++ [n], s.2)).1 ≤ k from Nat.le_trans (leftE_mono (gone_deep hU k ((Lf n).take i) (s.1 ++ [n], s.2) (fun x hx => hU n hn x (List.mem_of_mem_take hx)) (by have := leftE_less hn hin; show leftE U (s.1 ++ [n]) ≤ k; omega)).sub) (by have := leftE_less hn hin; show leftE U (s.1 ++ [n]) ≤ k; omega))
      have HTK := Lib.hid (fun (i : Nat) (hi : i < (Lf n).length) => deepE_take Lf k hi (s.1 ++ [n], s.2))
      have HZ9 := Lib.hid hU9
      obtain ⟨W1, hW1⟩ : ∃ X, W.alloc (.cells #[] 87) = X := ⟨_, rfl⟩
      have hst1 := hst.call (balloc (Below.refl _ W) (.cells #[] 87))
      have HF1 := Lib.hid (VFr.below (B := w0.heap.size) (v := v) (balloc (Below.refl _ W) (.cells #[] 87)))
      rw [hW1] at hst1 HF1
      have HST1 := Lib.hid hst1
      have HM1 := Lib.hid (show W1.ownsMap Try.prog 9 unitElem (w0.heap.size + 2) s.1.length (setD s.1) from hst1.hm)
      have d3 := hst1.hp
      have HML := Lib.hid (show s.1.length < maxLen by unfold maxLen; have := hst.le; omega)
      clear hst hst1 hin hle hC hcf ih hn
      go_enter Try.func80, Try.ntmps80
      go_wp2_with (first
        | (at_lookup; refine wpList_lookup_own_unit _ rfl _ _ 82 rfl 9 87 skeyed Try.underlying82 (Try.zeroValue87 _) (w0.heap.size + 2) s.1.length _ rfl HM.out _ _ rfl HK.out ?_)
        | (at_mapUpdate; refine wpList_mapUpdate_own _ rfl _ _ _ 82 rfl 9 87 skeyed Try.underlying82 _ (w0.heap.size + 2) s.1.length _ rfl HM1.out HML.out _ _ _ rfl rfl HK.out _ [] unitElem_mk ?_; intro w2 hm2 hg2; have HST2 := Lib.hid (HST1.out.meet HUN.out HNN.out hm2 hg2); have e2 := HST2.out.1.hl; clear hm2 hg2 hW1 c3 d3))
      rw [HCF.out]
      refine Calls.mono (HC.out w2 HST2.out.1.hw HST2.out.1.sz) ?_
      rintro r w3 ⟨A3, z3, rfl, hb3, ho3⟩
      obtain ⟨mm, hmm⟩ : ∃ q, (Lf n).length = q := ⟨_, rfl⟩
      have HMM := Lib.hid hmm
      have HO3 := Lib.hid ho3
      rw [hmm] at HO3 HL9 ⊢
      have HVB := Lib.hid (show ∀ g, v.ownBlock = some g → g < w2.heap.size from fun g e => (Array.getElem?_eq_some_iff.1 (HST2.out.1.hr.block g e).2.choose_spec).1)
      have HB5 := Lib.hid (show w0.heap.size + 5 ≤ w2.heap.size from HST2.out.1.sz)
      have HST3 := Lib.hid (HST2.out.1.call hb3)
      have HF3 := Lib.hid ((HF1.out.trans HST2.out.2).trans (VFr.below (B := w0.heap.size) (v := v) hb3))
      have m9 : (mm : Int) ≤ 2097152 := by have := HL9.out; omega
      clear hmm ho3 hb3 e2
      go_wp2_with fail
      go_loopw [24] (fun iv wr => ∃ (i : Nat) (v' : Value), i ≤ mm ∧ iv = .int .i64 i ∧ VSt w0 U (.func (.func gl) bd caps) (o + 1) (deepE Lf k ((Lf n).take i) (s.1 ++ [n], s.2)) v' wr ∧ VFr w0.heap.size w3 v wr v') (fun iv _ => mm - (intOf iv).toNat)
      case atStart => exact ⟨0, v, Nat.zero_le _, rfl, HST3.out, VFr.refl _ _ _⟩
      case round =>
        obtain ⟨i, v', hi, rfl, hst, hfr⟩ := hrel
        have HST := Lib.hid hst
        have HFR := Lib.hid hfr
        have HSBI := Lib.hid (HSB.out i)
        have HTKI := Lib.hid (HTK.out i)
        obtain ⟨t, ht⟩ : ∃ t, deepE Lf k ((Lf n).take i) (s.1 ++ [n], s.2) = t := ⟨_, rfl⟩
        rw [ht] at HST HSBI
        simp only [ht] at HTKI
        have HTE := Lib.hid ht
        clear hst hfr ht
        by_cases hlt : i < mm
        · have hml : i < (Lf n).length := by have := HMM.out; omega
          have hstr := Strs.frame HO3.out HFR.out HB5.out HVB.out
          obtain ⟨b1, off, hA, hbl, e0⟩ := RowOf.at_ hstr hml
          subst hA
          simp only [Nat.mul_one] at e0
          have HCI := Lib.hid (HIH.out (Lf n)[i] (o + 1) t v' wr (HUU.out _ (List.getElem_mem hml)) HSBI.out HST.out)
          rw [← HTKI.out hml] at HCI
          obtain ⟨x, hx⟩ : ∃ x, (Lf n)[i] = x := ⟨_, rfl⟩
          rw [hx] at e0 HCI
          have q0 : (0 : Int) ≤ (i : Int) := Int.natCast_nonneg _
          have q1 : (i : Int) < (mm : Int) := by omega
          have e4 := HST.out.hv
          have HLT := Lib.hid hlt
          clear hx hml hlt hbl hstr
          go_wp2_with fail
          refine Calls.mono HCI.out ?_
          rintro r w5 ⟨rfl, v5, hst5, hfr5⟩
          have HST5 := Lib.hid hst5
          have HFR5 := Lib.hid (HFR.out.trans hfr5)
          clear hst5 hfr5 e4 e0
          go_wp2_with fail
          go_roundw
          case rel => exact ⟨i + 1, v5, HLT.out, by go_num, HST5.out, HFR5.out⟩
          case measure => have := HLT.out; simp [intOf]; omega
        · have hd : decide ((i : Int) < (mm : Int)) = false := by simp; omega
          have HE := Lib.hid (show deepE Lf k (Lf n) (s.1 ++ [n], s.2) = t by rw [← HTE.out, List.take_of_length_le (by have := HMM.out; omega)])
          obtain ⟨A7, z7, hv7⟩ := HST.out.hr.form
          obtain ⟨nL, hnL⟩ : ∃ q, t.2.length = q := ⟨_, rfl⟩
          rw [hnL] at hv7
          subst hv7
          have HNL := Lib.hid hnL
          have e1 := HST.out.ho.cell 0
          simp only [List.getElem?_toArray, List.getElem?_cons_zero] at e1
          have H16 := Lib.hid (show (nL + 1) * 16 ≤ 140737488355328 by have h1 := HST.out.le; have h2 := HST.out.op; have h3 := HZ9.out; omega)
          have HF7 := Lib.hid (HF3.out.trans HFR.out)
          have HVT := Lib.hid (show visitE Lf (k + 1) n s = (t.1, t.2 ++ [n]) by rw [HV.out, HE.out])
          have HSZ := Lib.hid HST.out.sz
          clear hnL
          go_wp2_with (at_builtin; go_loud (refine app_name2 rfl _ _ rfl _ wr n rfl (w0.heap.size + 5) A7 nL z7 t.2 HNL.out rfl wr.heap.size rfl rfl HST.out.hr H16.out HSZ.out ?_; intro A' z' w8 ho8 hg8 hown8; have HT8 := Lib.hid (HST.out.tell ho8 hg8 hown8); have e8 := (hg8.block (w0.heap.size + 1) (by have := HSZ.out; omega) (fun e => by have := (HST.out.hr.block _ e.symm).1; omega)).trans HST.out.ho; have f8 := Whole.cell e8 0; have g8 := Whole.free e8 0; clear ho8 hg8 hown8 e8 e1))
          go_end0
          exact ⟨rfl, _, by rw [HVT.out]; exact HT8.out.1, HF7.out.trans HT8.out.2⟩
end Go.Proofs.Ytoglmdadpchhoaa
