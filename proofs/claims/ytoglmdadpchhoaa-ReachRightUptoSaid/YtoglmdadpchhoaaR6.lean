/- Package reach: the first functions of names; From. -/
import Derived.Test.YtoglmdadpchhoaaR5
import Derived.Test.YtoglmdadpchhoaaKO
import Derived.Test.YtoglmdadpchhoaaRQ
namespace Go.Proofs.Ytoglmdadpchhoaa
open Go.RowKit Go.Shelf

/-- functions as they are, in a map -/
def fnR : Value → Option (DataW Value × List MemPlace)
  | .agg cs => some (.held (.agg cs), [])
  | _ => none
theorem fnR_inv {v u : Value} {ps : List MemPlace} (h : fnR v = some (.held u, ps)) : v = u := by
  unfold fnR at h
  split at h
  · simp only [Option.some.injEq, Prod.mk.injEq, DataW.held.injEq] at h
    exact h.1
  · cases h
def fnV (f : Fn) (A : Option Addr) (c : Nat) : Value := .agg #[.string f.s, .int .i64 f.b, .int .i64 f.p, .slice A f.l.length c]
def fn0 : Value := .agg #[.string ⟨#[]⟩, .int .i64 0, .int .i64 0, .slice none 0 0]
/-- what a map of first functions holds -/
def FiD (w0 : World) (l : List Fn) (D : DataW Value) : Prop := ∀ s, (∃ f A c, l.find? (fun f => f.s == s) = some f ∧ (∀ z, D.atKey (slit s) z = .held (fnV f A c)) ∧ Blocks w0 (.slice A f.l.length c) f.l) ∨ (l.find? (fun f => f.s == s) = none ∧ ∀ z, D.atKey (slit s) z = z)
def FiAt (w0 W : World) (b n : Nat) (l : List Fn) : Prop := ∃ D : DataW Value, W.ownsMap Try.prog 9 fnR b n D ∧ FiD w0 l D
theorem FiAt.same {w0 W U : World} {b n : Nat} {l : List Fn} (h : FiAt w0 W b n l) (hs : U.heap[b]? = W.heap[b]?) : FiAt w0 U b n l := by
  obtain ⟨D, h1, h2⟩ := h
  exact ⟨D, map_same h1 (fun _ => hs), h2⟩
theorem FiAt.lt {w0 W : World} {b n : Nat} {l : List Fn} (h : FiAt w0 W b n l) : b < W.heap.size := by
  obtain ⟨D, ⟨es, clock, he, -⟩, -⟩ := h
  exact (Array.getElem?_eq_some_iff.1 he).1
theorem find_app (l : List Fn) (f : Fn) (s : ByteArray) : (l ++ [f]).find? (fun f => f.s == s) = (l.find? (fun f => f.s == s)).or (if (f.s == s) = true then some f else none) := by
  rw [List.find?_append]
  congr 1
  by_cases h : (f.s == s) = true
  · rw [if_pos h]
    simp [h]
  · rw [if_neg h]
    simp [h]
theorem FiD.snoc {w0 : World} {l : List Fn} {f : Fn} {D : DataW Value} {A : Option Addr} {c : Nat} (h : FiD w0 l D) (hm : Maps.IsMap D) (hn : l.find? (fun g => g.s == f.s) = none) (hb : Blocks w0 (.slice A f.l.length c) f.l) : FiD w0 (l ++ [f]) (D.put (slit f.s) (.held (fnV f A c))) := by
  intro s
  rw [find_app]
  by_cases e : f.s = s
  · subst e
    refine .inl ⟨f, A, c, ?_, fun z => Maps.atKey_put_same hm (slit_key _) _ _, hb⟩
    rw [hn]
    simp
  · have e2 : ¬ (f.s == s) = true := fun h => e ((jba_beq _ _).1 h)
    rw [if_neg e2, Option.or_none]
    rcases h s with ⟨g, A', c', h1, h2, h3⟩ | ⟨h1, h2⟩
    · refine .inl ⟨g, A', c', h1, fun z => ?_, h3⟩
      rw [Maps.atKey_put_other (fun h => e (by rw [slit_inj h]))]
      exact h2 z
    · refine .inr ⟨h1, fun z => ?_⟩
      rw [Maps.atKey_put_other (fun h => e (by rw [slit_inj h]))]
      exact h2 z
theorem FiD.more {w0 : World} {l : List Fn} {f g : Fn} {D : DataW Value} (h : FiD w0 l D) (hn : l.find? (fun g => g.s == f.s) = some g) : FiD w0 (l ++ [f]) D := by
  intro s
  rw [find_app]
  rcases h s with ⟨g', A', c', h1, h2, h3⟩ | ⟨h1, h2⟩
  · exact .inl ⟨g', A', c', by rw [h1]; rfl, h2, h3⟩
  · refine .inr ⟨?_, h2⟩
    rw [h1, if_neg (fun e => by
      rw [(jba_beq _ _).1 e] at hn
      rw [hn] at h1
      cases h1)]
    rfl
/-- a lookup in it -/
theorem fi_look {w0 W : World} {b n : Nat} {l : List Fn} (h : FiAt w0 W b n l) {s : ByteArray} (hs : s.size < 9223372036854775808) :
    (∃ f A c, l.find? (fun f => f.s == s) = some f ∧ Blocks w0 (.slice A f.l.length c) f.l ∧ (Instr.lookup 94 (.map (some b)) (.string s) false).run Try.prog W = .ok (fnV f A c) W ∧ (Instr.lookup 94 (.map (some b)) (.string s) true).run Try.prog W = .ok (.tuple #[fnV f A c, .bool true]) W) ∨
    (l.find? (fun f => f.s == s) = none ∧ (Instr.lookup 94 (.map (some b)) (.string s) false).run Try.prog W = .ok fn0 W ∧ (Instr.lookup 94 (.map (some b)) (.string s) true).run Try.prog W = .ok (.tuple #[fn0, .bool false]) W) := by
  obtain ⟨D, h1, h2⟩ := h
  have hz : (zeroValue 50).run Try.prog W = .ok fn0 W := Try.zeroValue50 W
  have hzd : fnR fn0 = some (.held fn0, []) := rfl
  obtain ⟨v, ps, r1, v1⟩ := h1.lookup skeyed Try.underlying94 hz hzd (skey_of hs)
  obtain ⟨v', ps', r2, v2⟩ := h1.look_ok skeyed Try.underlying94 hz hzd (skey_of hs)
  rcases h2 s with ⟨f, A, c, e1, e2, e3⟩ | ⟨e1, e2⟩
  · left
    rw [e2] at v1 v2
    rw [fnR_inv v1] at r1
    rw [fnR_inv v2, Maps.has_true_of_atKey e2] at r2
    exact ⟨f, A, c, e1, e3, r1, r2⟩
  · right
    rw [e2] at v1 v2
    rw [fnR_inv v1] at r1
    rw [fnR_inv v2, Maps.has_false_of_atKey e2] at r2
    exact ⟨e1, r1, r2⟩
set_option maxRecDepth 100000 in
set_option maxHeartbeats 2000000 in
theorem lackFn_any (w0 : World) (l : List Fn) (s : ByteArray) (b n : Nat) (w : World) (hs : s.size < 9223372036854775808) (hS : FiAt w0 w b n l) :
    Calls Try.prog 56 #[.map (some b), .string s] w fun e w' => e = .returned (.bool (l.find? (fun f => f.s == s)).isNone) ∧ Below w.heap.size w w' := by
  rcases fi_look hS hs with ⟨f, A, c, e1, -, -, r2⟩ | ⟨e1, -, r2⟩
  · rw [e1]
    unfold fnV at r2
    clear hS hs e1
    obtain ⟨fs, fb, fp, fl⟩ := f
    dsimp only at r2
    obtain ⟨q, hq⟩ : ∃ q, fl.length = q := ⟨_, rfl⟩
    rw [hq] at r2
    clear hq
    go_enter Try.func56, Try.ntmps56
    go_wp2_with fail
    go_ret
    exact ⟨rfl, balloc (Below.refl _ w) _⟩
  · rw [e1]
    unfold fn0 at r2
    clear hS hs e1
    go_enter Try.func56, Try.ntmps56
    go_wp2_with fail
    go_ret
    exact ⟨rfl, balloc (Below.refl _ w) _⟩
set_option maxRecDepth 100000 in
set_option maxHeartbeats 8000000 in
theorem firstsOf_any (m : Md) (F G : Option Addr) (nf cf ng cg : Nat) (w : World) (hok : MdOk m) (hnf : m.f.length = nf) (hn : nf ≤ 1048576) (hS : MdAt w (.slice F nf cf) (.slice G ng cg) m) :
    Calls Try.prog 50 #[.agg #[.slice F nf cf, .slice G ng cg]] w fun e w' => ∃ b, e = .returned (.map (some b)) ∧ Below w.heap.size w w' ∧ FiAt w w' b nf m.f ∧ w.heap.size ≤ b := by
  have HS := Lib.hid hS.1
  have HOK := Lib.hid hok.1
  have HNF := Lib.hid (show m.f.length ≤ nf ∧ nf ≤ m.f.length by omega)
  have n1 : (nf : Int) ≤ 1048576 := by omega
  have hcb := heap_alloc_new w (.cells #[.slice F nf cf, .slice G ng cg] 25)
  have hb0 := balloc (Below.refl _ w) (.cells #[.slice F nf cf, .slice G ng cg] 25)
  have hbs : (w.alloc (.cells #[.slice F nf cf, .slice G ng cg] 25)).heap.size = w.heap.size + 1 := by simp
  obtain ⟨W0, hW0⟩ : ∃ U, w.alloc (.cells #[.slice F nf cf, .slice G ng cg] 25) = U := ⟨_, rfl⟩
  rw [hW0] at hcb hb0 hbs
  have HOM := World.ownsMap_made (H := Value) W0 Try.prog 9 fnR
  have HB1 := balloc hb0 (.map #[] 0)
  have c0' := (cellNext (b := w.heap.size) (by omega) (balloc (Below.refl _ W0) (.map #[] 0)) 0).trans (Lib.cell_of_heap hcb 0)
  obtain ⟨W1, hW1⟩ : ∃ U, W0.alloc (.map #[] 0) = U := ⟨_, rfl⟩
  rw [hW1] at HOM HB1 c0'
  rw [hbs] at HOM
  have HO1 := Lib.hid (show FiAt w W1 (w.heap.size + 1) 0 [] from ⟨_, HOM, fun s => .inr ⟨rfl, fun z => rfl⟩⟩)
  have HBB := Lib.hid HB1
  have c0 : W1.cell? ⟨w.heap.size, 0, none⟩ = some (.slice F nf cf) := c0'
  have hmm := @run_makeMap Try.prog
  have hsz1 : W0.heap.size = w.heap.size + 1 := hbs
  clear hS hnf hn hcb hb0 HOM HB1 c0' hok hbs
  go_enter Try.func50, Try.ntmps50
  go_wp2_with fail
  clear c0 hW0 hW1 hmm hsz1
  go_loopw [10] (fun iv wr => ∃ i : Nat, i ≤ nf ∧ iv = .int .i64 i ∧ FiAt w wr (w.heap.size + 1) i (m.f.take i) ∧ Below w.heap.size w wr) (fun iv _ => nf - (intOf iv).toNat)
  case atStart => exact ⟨0, Nat.zero_le _, rfl, HO1.out, HBB.out⟩
  case round =>
    obtain ⟨i, hi, rfl, ho, hb⟩ := hrel
    have HO := Lib.hid ho
    have HB := Lib.hid hb
    clear ho hb HO1 HBB
    by_cases hlt : i < nf
    · have hm : i < m.f.length := by have := HNF.out; omega
      obtain ⟨b1, off, hA, hbl, e0⟩ := RowOf.at_ HS.out hm
      subst hA
      obtain ⟨-, -, -, A3', z3', c3', hbk'⟩ := id e0
      obtain ⟨c0, c1, c2, A3, z3, c3, -⟩ := FnAt.next _ _ _ _ _ hbl HB.out e0
      have hc3 : Value.slice A3 m.f[i].l.length z3 = Value.slice A3' m.f[i].l.length z3' := Option.some.inj (c3.symm.trans ((cellNext hbl HB.out _).trans c3'))
      obtain ⟨h31, -, h32⟩ := Value.slice.inj hc3
      subst h31 h32
      have HFS := Lib.hid (HOK.out _ (List.getElem_mem hm)).1
      have HTK := Lib.hid (show m.f.take (i + 1) = m.f.take i ++ [m.f[i]] from List.take_succ_eq_append_getElem hm)
      obtain ⟨x, hx⟩ : ∃ x, m.f[i] = x := ⟨_, rfl⟩
      rw [hx] at c0 c1 c2 c3 HTK hbk' HFS
      have HBK := Lib.hid hbk'
      have q0 : (0 : Int) ≤ (i : Int) := Int.natCast_nonneg _
      have q1 : (i : Int) < (nf : Int) := by omega
      have HLT := Lib.hid hlt
      have HML := Lib.hid (show i < maxLen by unfold maxLen; omega)
      clear e0 hbl hx hm hlt c3' hbk' hc3
      obtain ⟨P, hP⟩ : ∃ P, m.f.take i = P := ⟨_, rfl⟩
      rw [hP] at HO HTK
      clear hP
      obtain ⟨xs, xb, xp, xl⟩ := x
      dsimp only at c0 c1 c2 c3 HTK HBK HFS
      obtain ⟨xn, hxn⟩ : ∃ q, xl.length = q := ⟨_, rfl⟩
      have HXN := Lib.hid hxn
      rw [hxn] at c3
      have hba := balloc (Below.refl _ wr) (.cells #[.string xs, .int .i64 xb, .int .i64 xp, .slice A3 xn z3] 50)
      have HBA := Lib.hid (bthen HB.out hba)
      have HOA := Lib.hid (HO.out.same (U := wr.alloc (.cells #[.string xs, .int .i64 xb, .int .i64 xp, .slice A3 xn z3] 50)) (hba.block _ HO.out.lt))
      have HLK := Lib.hid (lackFn_any w P xs (w.heap.size + 1) i _ HFS.out HOA.out)
      have HWN := Lib.hid (heap_alloc_new wr (.cells #[.string xs, .int .i64 xb, .int .i64 xp, .slice A3 xn z3] 50))
      clear hxn hba
      cases hf : P.find? (fun f => f.s == xs) with
      | some g =>
        rw [hf] at HLK
        have HFI := Lib.hid hf
        clear hf
        go_wp2_with fail
        refine HLK.out.mono ?_
        rintro r w4 ⟨rfl, hb4⟩
        have HO4 := Lib.hid (show FiAt w w4 (w.heap.size + 1) (i + 1) (m.f.take (i + 1)) by
          obtain ⟨D, h1, h2⟩ := HOA.out.same (hb4.block _ HOA.out.lt)
          refine ⟨D, h1.mono (Nat.le_succ _), ?_⟩
          rw [HTK.out]
          exact h2.more HFI.out)
        have HB4 := Lib.hid (bthen HBA.out hb4)
        clear hb4 c0 c1 c2 c3
        go_wp2_with fail
        go_roundw
        case rel => exact ⟨i + 1, HLT.out, by go_num, HO4.out, HB4.out⟩
        case measure => have := HLT.out; simp [intOf]; omega
      | none =>
        rw [hf] at HLK
        have HFI := Lib.hid hf
        clear hf
        go_wp2_with fail
        refine HLK.out.mono ?_
        rintro r w4 ⟨rfl, hb4⟩
        have HO4 := Lib.hid (HOA.out.same (hb4.block _ HOA.out.lt))
        have HB4 := Lib.hid (bthen HBA.out hb4)
        have HW4 := Whole.next (show Whole _ wr.heap.size 50 _ from HWN.out) hb4
        have b0 : w4.cell? ⟨wr.heap.size, 0, none⟩ = some (.string xs) := HW4.cell 0
        have b1' : w4.cell? ⟨wr.heap.size, 1, none⟩ = some (.int .i64 xb) := HW4.cell 1
        have b2 : w4.cell? ⟨wr.heap.size, 2, none⟩ = some (.int .i64 xp) := HW4.cell 2
        have b3 : w4.cell? ⟨wr.heap.size, 3, none⟩ = some (.slice A3 xn z3) := HW4.cell 3
        obtain ⟨D, hD1, hD2⟩ := HO4.out
        have HD1 := Lib.hid hD1
        have HD2 := Lib.hid hD2
        have HKY := Lib.hid (skey_of HFS.out)
        clear hb4 HW4 hD1 hD2 c0 c1 c2 c3
        go_wp2_with (at_mapUpdate; refine wpList_mapUpdate_own _ rfl _ _ _ 94 rfl 9 50 skeyed Try.underlying94 _ (w.heap.size + 1) i _ rfl HD1.out HML.out _ _ _ rfl rfl HKY.out _ [] rfl ?_; intro w5 hm5 hg5)
        have HO5 := Lib.hid (show FiAt w w5 (w.heap.size + 1) (i + 1) (m.f.take (i + 1)) by
          refine ⟨_, hm5, ?_⟩
          rw [HTK.out]
          have h := FiD.snoc (f := ⟨xs, xb, xp, xl⟩) (A := A3) (c := z3) HD2.out HD1.out.isMap HFI.out HBK.out
          unfold fnV at h
          dsimp only at h
          rw [HXN.out] at h
          exact h)
        have HB5 := Lib.hid (below_turned HB4.out hg5 (Nat.le_succ _) HB4.out.size)
        clear hm5 hg5
        go_roundw
        case rel => exact ⟨i + 1, HLT.out, by go_num, HO5.out, HB5.out⟩
        case measure => have := HLT.out; simp [intOf]; omega
    · have hd : decide ((i : Int) < (nf : Int)) = false := by simp; omega
      have HF := Lib.hid (show FiAt w wr (w.heap.size + 1) nf m.f by
        have h := HO.out
        rw [List.take_of_length_le (by have := HNF.out; omega), show i = nf by omega] at h
        exact h)
      go_wp2_with fail
      go_ret
      exact ⟨_, rfl, HB.out, HF.out, Nat.le_succ _⟩
end Go.Proofs.Ytoglmdadpchhoaa
