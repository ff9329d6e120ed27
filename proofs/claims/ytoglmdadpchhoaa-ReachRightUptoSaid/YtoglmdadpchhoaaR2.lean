/- Package reach: rows of names: functions, names, calls, Roots, among, once. -/
import Derived.Test.YtoglmdadpchhoaaR1
import Derived.Test.YtoglmdadpchhoaaHY3
namespace Go.Proofs.Ytoglmdadpchhoaa
open Go.RowKit Go.Shelf

theorem app_name {ops : Array Oper} {rest : List Oper} {o : Oper} {a : Act} {Q : Exit → Act → World → Prop} (hgd : o.guard = none) (s x : Operand) (ho : o.op = .call { callee := .builtin .append, args := #[s, x], argTypes := #[45, 45] })
    (U W : World) (y : ByteArray) (hU : U = W.alloc (.cells #[.string y] 9)) (base : Nat) (A0 : Option Addr) (nL z0 : Nat) (L : List ByteArray) (hn : L.length = nL) (hs : a.eval s = .slice A0 nL z0) (b1 : Nat) (hb1 : W.heap.size = b1) (hx : a.eval x = .slice (some ⟨b1, 0, none⟩) 1 1) (hO : OwnsN W base (.slice A0 nL z0) L) (h16 : (nL + 1) * 16 ≤ 140737488355328) (hbase : base ≤ W.heap.size)
    (h : ∀ A' z' w', OwnsN w' base (.slice A' (nL + 1) z') (L ++ [y]) → Below base W w' → wpList Try.prog ops Q rest (a.put o.dst (.slice A' (nL + 1) z')) w') : wpList Try.prog ops Q (o :: rest) a U := by
  subst hU hn hb1
  obtain ⟨i0, hi, hz0, hz1, hz2⟩ := info_parts str_info
  have hO2 : (W.alloc (.cells #[.string y] 9)).ownsRow base 9 1 (.slice A0 L.length z0) L.length (strRow L) := World.ownsRow.alloc (show W.ownsRow base 9 1 (.slice A0 L.length z0) L.length (strRow L) from hO) _
  refine wpList_append_own (P := Try.prog) _ hgd s x 45 ho base 9 i0 (.string ⟨#[]⟩) 1 16 Try.underlying45 hi hz0 hz1 hz2 rfl (by decide) _ L.length (strRow L) hs hO2 ⟨W.heap.size, 0, none⟩ 1 1 [.string y] hx rfl (fun j u hj => ?_) (fun u hu => by rw [List.mem_singleton.1 hu]; rfl) (by unfold maxLen; omega) (by omega) (by simp; omega) (fun v' w' h1 h2 _ => ?_)
  · have hj0 : j = 0 := by have := (List.getElem?_eq_some_iff.1 hj).1; simpa using this
    subst hj0
    simp only [List.getElem?_cons_zero, Option.some.injEq] at hj
    subst hj
    rw [show (⟨W.heap.size, 0, none⟩ : Addr).add 0 = ⟨W.heap.size, 0, none⟩ from rfl]
    exact Lib.cell_of_heap (heap_alloc_new W (.cells #[.string y] 9)) 0
  · have h3 : OwnsN w' base v' (L ++ [y]) := by
      unfold OwnsN strRow
      rw [List.length_append, List.map_append]
      exact h1
    obtain ⟨A', z', e⟩ := h3.form
    rw [List.length_append] at e
    subst e
    refine h A' z' w' h3 ?_
    have hb : Below base W (W.alloc (.cells #[.string y] 9)) := (balloc (Below.refl _ W) _).mono hbase
    refine hb.trans ⟨h2.os, h2.tape, h2.output, h2.size, fun k hk => h2.block k (by simp; omega) (fun e => ?_)⟩
    have := (hO2.lt k e.symm).1
    omega
theorem ownN_at {W : World} {base : Nat} {v : Value} {L : List ByteArray} (h : OwnsN W base v L) (hb : base ≤ W.heap.size) : OwnAt 1 9 StC base W.heap.size L v W := by
  have h' : W.ownsRow base 9 1 v L.length (strRow L) := h
  refine ⟨strRow L, W.heap.size, h', hb, Nat.le_refl _, Nat.le_refl _, fun g e => (h'.lt g e).2, fun j hj => ⟨[.string L[j]], rfl, fun k hk => ?_, fun U _ => rfl⟩⟩
  have hk0 : k = 0 := by simpa using hk
  subst hk0
  simp [strRow, hj]
theorem at_strs {W : World} {base hi : Nat} {v : Value} {L : List ByteArray} (h : OwnAt 1 9 StC base hi L v W) : Strs W v L := h.rowAt StC.lay
theorem OwnsN.thin {W : World} {base b' : Nat} {v : Value} {L : List ByteArray} (h : OwnsN W base v L) (hb : b' ≤ base) : OwnsN W b' v L := by
  have h' : W.ownsRow base 9 1 v L.length (strRow L) := h
  show W.ownsRow b' 9 1 v L.length (strRow L)
  rcases h' with ⟨e1, e2 | ⟨g, cap, cur, hv, hge, r⟩⟩
  · exact ⟨e1, .inl e2⟩
  · exact ⟨e1, .inr ⟨g, cap, cur, hv, by omega, r⟩⟩
theorem OwnsN.call {W U : World} {base : Nat} {v : Value} {L : List ByteArray} (h : OwnsN W base v L) (hb : Below W.heap.size W U) : OwnsN U base v L := ownsN_kept h (grown_keep hb) (by by_cases h : v.ownBlock = none; exact .inl h; exact .inr h)
theorem OwnsN.nil (W : World) (base : Nat) : OwnsN W base (.slice none 0 0) [] := ⟨rfl, .inl ⟨rfl, rfl⟩⟩
/-- a new row of names of the call's own -/
def MadeN (L : List ByteArray) (w : World) (e : Ending) (w' : World) : Prop := ∃ A c, e = .returned (.slice A L.length c) ∧ Below w.heap.size w w' ∧ OwnsN w' w.heap.size (.slice A L.length c) L
/-- names gathered of a row -/
theorem take_map {α : Type} (f : α → ByteArray) {l : List α} {i : Nat} (hi : i < l.length) : (l.take (i + 1)).map f = (l.take i).map f ++ [f l[i]] := by
  rw [List.take_succ_eq_append_getElem hi, List.map_append]
  rfl
set_option maxRecDepth 100000 in
set_option maxHeartbeats 4000000 in
theorem functions_any (m : Md) (F G : Option Addr) (nf cf ng cg : Nat) (w : World) (hnf : m.f.length = nf) (hn : nf ≤ 1048576) (hS : MdAt w (.slice F nf cf) (.slice G ng cg) m) :
    Calls Try.prog 52 #[.agg #[.slice F nf cf, .slice G ng cg]] w (MadeN (m.f.map (·.s)) w) := by
  have HS := Lib.hid hS.1
  have HNF := Lib.hid (show m.f.length ≤ nf ∧ nf ≤ m.f.length by omega)
  have HN9 := Lib.hid hn
  have n1 : (nf : Int) ≤ 1048576 := by omega
  have hcb := heap_alloc_new w (.cells #[.slice F nf cf, .slice G ng cg] 25)
  have HB0 := Lib.hid (balloc (Below.refl _ w) (.cells #[.slice F nf cf, .slice G ng cg] 25))
  have HBS := Lib.hid (show (w.alloc (.cells #[.slice F nf cf, .slice G ng cg] 25)).heap.size = w.heap.size + 1 by simp)
  obtain ⟨W0, hW0⟩ : ∃ U, w.alloc (.cells #[.slice F nf cf, .slice G ng cg] 25) = U := ⟨_, rfl⟩
  rw [hW0] at hcb HB0 HBS
  have HCB := Lib.hid hcb
  clear hS hnf hn hcb
  go_enter Try.func52, Try.ntmps52
  go_upto_region 1 with fail
  try rw [hW0]
  clear hW0
  have c0 : W0.cell? ⟨w.heap.size, 0, none⟩ = some (.slice F nf cf) := Lib.cell_of_heap HCB.out 0
  go_wp2_with fail
  clear c0
  go_loopw [3, 9] (fun vv iv wr => ∃ i : Nat, i ≤ nf ∧ iv = .int .i64 i ∧ OwnsN wr W0.heap.size vv ((m.f.take i).map (·.s)) ∧ Below W0.heap.size W0 wr) (fun _ iv _ => nf - (intOf iv).toNat)
  case atStart => exact ⟨0, Nat.zero_le _, rfl, OwnsN.nil _ _, Below.refl _ _⟩
  case round =>
    obtain ⟨i, hi, rfl, ho, hb⟩ := hrel
    have HO := Lib.hid ho
    have HB := Lib.hid hb
    obtain ⟨A0, z0, hv0⟩ := ho.form
    obtain ⟨L, hL⟩ : ∃ L, (m.f.take i).map (·.s) = L := ⟨_, rfl⟩
    have HLQ := Lib.hid (show L.length = i by rw [← hL, List.length_map, List.length_take]; have := HNF.out; omega)
    rw [hL] at HO hv0
    rw [HLQ.out] at hv0
    subst hv0
    have HLE := Lib.hid hL
    clear ho hb hL
    by_cases hlt : i < nf
    · have hm : i < m.f.length := by have := HNF.out; omega
      obtain ⟨b1, off, hA, hbl, e0⟩ := RowOf.at_ HS.out hm
      subst hA
      obtain ⟨c0, c1, c2, A3, z3, c3, -⟩ := FnAt.next _ _ _ _ _ hbl (bthen HB0.out HB.out) e0
      have HTK := Lib.hid (show (m.f.take (i + 1)).map (·.s) = L ++ [m.f[i].s] by rw [take_map (fun f : Fn => f.s) hm, HLE.out])
      obtain ⟨⟨xs, xb, xp, xl⟩, hx⟩ : ∃ x, m.f[i] = x := ⟨_, rfl⟩
      rw [hx] at c0 c1 c2 c3 HTK
      dsimp only at c0 c1 c2 c3 HTK
      obtain ⟨xn, hxn⟩ : ∃ n, xl.length = n := ⟨_, rfl⟩
      rw [hxn] at c3
      have q0 : (0 : Int) ≤ (i : Int) := Int.natCast_nonneg _
      have q1 : (i : Int) < (nf : Int) := by omega
      have HLT := Lib.hid hlt
      have HO2 := Lib.hid (HO.out.call (balloc (Below.refl _ wr) (.cells #[.string xs, .int .i64 xb, .int .i64 xp, .slice A3 xn z3] 50)))
      have H16 := Lib.hid (show (i + 1) * 16 ≤ 140737488355328 by have := HN9.out; omega)
      have HBW := Lib.hid (show W0.heap.size ≤ (wr.alloc (.cells #[.string xs, .int .i64 xb, .int .i64 xp, .slice A3 xn z3] 50)).heap.size by have := HB.out.size; simp; omega)
      have HBA := Lib.hid ((balloc (Below.refl _ wr) (.cells #[.string xs, .int .i64 xb, .int .i64 xp, .slice A3 xn z3] 50)).mono HB.out.size)
      clear e0 hbl hx hxn hm hlt
      go_wp2_with (at_builtin; go_loud (refine app_name rfl _ _ rfl _ (wr.alloc (.cells #[.string xs, .int .i64 xb, .int .i64 xp, .slice A3 xn z3] 50)) xs rfl W0.heap.size A0 i z0 L HLQ.out rfl (wr.heap.size + 1) (by simp) rfl HO2.out H16.out HBW.out ?_; intro A' z' w4 ho4 hb4))
      have HO4 := Lib.hid ho4
      have HB4 := Lib.hid (HB.out.trans (HBA.out.trans hb4))
      clear ho4 hb4
      go_wp2_with fail
      go_roundw
      case rel => exact ⟨i + 1, HLT.out, by go_num, by rw [HTK.out]; exact HO4.out, HB4.out⟩
      case measure => have := HLT.out; simp [intOf]; omega
    · have hd : decide ((i : Int) < (nf : Int)) = false := by simp; omega
      have HF := Lib.hid (show m.f.map (·.s) = L ∧ L.length = i by
        refine ⟨?_, HLQ.out⟩
        rw [← HLE.out, List.take_of_length_le (by have := HNF.out; omega)])
      go_wp2_with fail
      go_ret
      rw [HF.out.1]
      refine ⟨A0, z0, by rw [HF.out.2]; rfl, HB0.out.trans (HB.out.mono (by have := HBS.out; omega)), ?_⟩
      rw [HF.out.2]
      exact HO.out.thin (by have := HBS.out; omega)
end Go.Proofs.Ytoglmdadpchhoaa
