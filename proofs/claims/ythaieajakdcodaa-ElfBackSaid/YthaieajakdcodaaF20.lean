/- Package elf, read: the segments of a file. -/
import Derived.Test.YthaieajakdcodaaF19
import Derived.Laws.AppendOwnNone
import Derived.Laws.MakeOwn
import Derived.Deep.AppendLies
import Derived.WalkSpells
namespace Go.Proofs.Ythaieajakdcodaa
open Go.RowKit

/-- a segment's cells -/
def sgCells (x : Sg) : List Value := [.int .u64 x.a, .int .i64 x.p, .string x.d, .int .u64 x.z]
def sgRow (m : List Sg) : List Value := m.flatMap sgCells
theorem sgRow_length (m : List Sg) : (sgRow m).length = m.length * 4 := by
  induction m with
  | nil => rfl
  | cons x m ih => simp only [sgRow, List.flatMap_cons, List.length_append, List.length_cons] at ih ⊢; rw [ih]; simp [sgCells]; omega
theorem sgRow_append (m k : List Sg) : sgRow (m ++ k) = sgRow m ++ sgRow k := by simp [sgRow]
theorem sgRow_one : ∀ (m : List Sg), ∀ u ∈ sgRow m, u.oneCell' = true := by
  intro m u hu
  simp only [sgRow, List.mem_flatMap, sgCells, List.mem_cons, List.not_mem_nil, or_false] at hu
  obtain ⟨x, _, rfl | rfl | rfl | rfl⟩ := hu <;> rfl
theorem sgRow_at (m : List Sg) (i : Nat) (h : i < m.length) : (sgRow m)[i * 4]? = some (.int .u64 m[i].a) ∧ (sgRow m)[i * 4 + 1]? = some (.int .i64 m[i].p) ∧ (sgRow m)[i * 4 + 2]? = some (.string m[i].d) ∧ (sgRow m)[i * 4 + 3]? = some (.int .u64 m[i].z) := by
  induction m generalizing i with
  | nil => simp at h
  | cons x m ih =>
    cases i with
    | zero => exact ⟨rfl, rfl, rfl, rfl⟩
    | succ i =>
      obtain ⟨h0, h1, h2, h3⟩ := ih i (by simpa using h)
      have e : sgRow (x :: m) = sgCells x ++ sgRow m := rfl
      rw [e]
      refine ⟨?_, ?_, ?_, ?_⟩
      · rw [List.getElem?_append_right (by simp [sgCells]; omega), show (i + 1) * 4 - (sgCells x).length = i * 4 by simp [sgCells]; omega]; exact h0
      · rw [List.getElem?_append_right (by simp [sgCells]; omega), show (i + 1) * 4 + 1 - (sgCells x).length = i * 4 + 1 by simp [sgCells]; omega]; exact h1
      · rw [List.getElem?_append_right (by simp [sgCells]; omega), show (i + 1) * 4 + 2 - (sgCells x).length = i * 4 + 2 by simp [sgCells]; omega]; exact h2
      · rw [List.getElem?_append_right (by simp [sgCells]; omega), show (i + 1) * 4 + 3 - (sgCells x).length = i * 4 + 3 by simp [sgCells]; omega]; exact h3
/-- a row of the call's own that holds segments -/
def OwnsS (W : World) (base : Nat) (v : Value) (m : List Sg) : Prop := W.ownsRow base 45 4 v m.length (sgRow m)
theorem OwnsS.segs {W : World} {base : Nat} {v : Value} {m : List Sg} (h : OwnsS W base v m) : Segs W v m := by
  have h' : W.ownsRow base 45 4 v m.length (sgRow m) := h
  by_cases hn : 0 < m.length
  · obtain ⟨g, cap, rfl, _, hg⟩ := h'.form hn
    refine .inr ⟨hn, g, 0, cap, rfl, hg, fun i hi => ?_⟩
    obtain ⟨k0, k1, k2, k3⟩ := sgRow_at m i hi
    refine ⟨?_, ?_, ?_, ?_⟩
    · rw [Nat.zero_add, h'.cellAt (i * 4) (by omega)]; exact k0
    · rw [Nat.zero_add, h'.cellAt (i * 4 + 1) (by omega)]; exact k1
    · rw [Nat.zero_add, h'.cellAt (i * 4 + 2) (by omega)]; exact k2
    · rw [Nat.zero_add, h'.cellAt (i * 4 + 3) (by omega)]; exact k3
  · obtain rfl : m = [] := List.eq_nil_of_length_eq_zero (by omega)
    refine .inl ⟨rfl, ?_⟩
    obtain ⟨_, ⟨rfl, _⟩ | ⟨g, cap, cur, rfl, _⟩⟩ := h'
    · exact .inl rfl
    · exact .inr ⟨_, _, rfl⟩
theorem OwnsS.same {W W' : World} {base : Nat} {v : Value} {m : List Sg} (h : OwnsS W base v m) (hs : ∀ g, base ≤ g → g < W.heap.size → W'.heap[g]? = W.heap[g]?) : OwnsS W' base v m := by
  obtain ⟨h1, h2 | ⟨g, cap, cur, hv, hge, hg, r⟩⟩ := h
  · exact ⟨h1, .inl h2⟩
  · exact ⟨h1, .inr ⟨g, cap, cur, hv, hge, (hs g hge (Array.getElem?_eq_some_iff.1 hg).1).trans hg, r⟩⟩
theorem OwnsS.other {W : World} {base : Nat} {v : Value} {m : List Sg} (h : OwnsS W base v m) {k : Nat} (hk : k < base) : v.ownBlock ≠ some k := by
  obtain ⟨h1, ⟨rfl, _⟩ | ⟨g, cap, cur, rfl, hge, _⟩⟩ := h
  · simp [Value.ownBlock]
  · simp only [Value.ownBlock, ne_eq, Option.some.injEq]; omega
theorem sg_add (b off j : Nat) : (⟨b, off, none⟩ : Addr).add j = ⟨b, off + j, none⟩ := by unfold Addr.add; split <;> simp_all
theorem sg_info : (Try.prog.info? 45).map (fun i => (i.zero, i.size, i.bytes)) = some (some (.agg #[.int .u64 0, .int .i64 0, .string ⟨#[]⟩, .int .u64 0]), 4, 40) := by kernel_rfl
/-- append of one segment to a row of the call's own -/
theorem wpList_append_seg {w : World} {ops : Array Oper} {rest : List Oper} {o : Oper} {a : Act} {Q : Exit → Act → World → Prop} (hgd : o.guard = none) (s x : Operand)
    (ho : o.op = .call { callee := .builtin .append, args := #[s, x], argTypes := #[23, 23] }) (base : Nat) (v : Value) (m : List Sg) (k : Sg) (hs : a.eval s = v) (hown : OwnsS w base v m)
    (b cap : Nat) (hx : a.eval x = .slice (some ⟨b, 0, none⟩) 1 cap) (hO : ∀ (j : Nat) (u : Value), (sgRow [k])[j]? = some u → w.cell? ⟨b, 0 + j, none⟩ = some u) (hn : (m.length + 1) * 40 ≤ 140737488355328) (hbase : base ≤ w.heap.size)
    (h : ∀ v' w', OwnsS w' base v' (m ++ [k]) → w.grownBy w' v.ownBlock → wpList Try.prog ops Q rest (a.put o.dst v') w') : wpList Try.prog ops Q (o :: rest) a w := by
  obtain ⟨i0, hi, hz0, hz1, hz2⟩ := info_parts sg_info
  have fin : ∀ v' w', w'.ownsRow base 45 4 v' (m.length + 1) (sgRow m ++ sgRow [k]) → w.grownBy w' v.ownBlock → wpList Try.prog ops Q rest (a.put o.dst v') w' := fun v' w' h1 h2 => by
    refine h v' w' ?_ h2
    unfold OwnsS
    rw [List.length_append, sgRow_append]
    exact h1
  exact wpList_append_own w hgd s x 23 ho base 45 i0 (.agg #[.int .u64 0, .int .i64 0, .string ⟨#[]⟩, .int .u64 0]) 4 40 Try.underlying23 hi hz0 hz1 hz2 rfl (by decide) v m.length (sgRow m) hs hown ⟨b, 0, none⟩ 1 cap (sgRow [k]) hx (by rw [sgRow_length]; rfl) (fun j u hj => by rw [sg_add]; exact hO j u hj) (sgRow_one [k]) (by unfold maxLen; omega) (by omega) hbase (fun v' w' h1 h2 _ => fin v' w' h1 h2)

theorem new_seg (w : World) (s : Sg) : ∃ W, put4 (w.alloc (.cells #[.int .u64 0, .int .i64 0, .string ⟨#[]⟩, .int .u64 0] 45)) w.heap.size s = W ∧ SegCell W w.heap.size s ∧ Below w.heap.size w W ∧ W.heap.size = w.heap.size + 1 := by
  have h : SegCell (w.alloc (.cells #[.int .u64 0, .int .i64 0, .string ⟨#[]⟩, .int .u64 0] 45)) w.heap.size zeroSg := heap_alloc_new _ _
  refine ⟨_, rfl, put4_cell h s, ?_, by simp [put4, World.setCell]⟩
  have b := balloc (Below.refl w.heap.size w) (.cells #[.int .u64 0, .int .i64 0, .string ⟨#[]⟩, .int .u64 0] 45)
  exact (((b.setCell (p := ⟨w.heap.size, 0, none⟩) (Nat.le_refl _) _).setCell (p := ⟨w.heap.size, 1, none⟩) (Nat.le_refl _) _).setCell (p := ⟨w.heap.size, 2, none⟩) (Nat.le_refl _) _).setCell (p := ⟨w.heap.size, 3, none⟩) (Nat.le_refl _) _
/-- why there are not so many segments, or nought -/
def tsF (T S : ByteArray) : Nat → Int
  | 0 => 0
  | c + 1 => if tsF T S c = 0 then tsE T S (56 * c) else tsF T S c
theorem tsF_stop {T S : ByteArray} {i : Nat} (h : tsF T S i ≠ 0) : ∀ c, i ≤ c → tsF T S c = tsF T S i := by
  intro c hc
  induction c with
  | zero => obtain rfl : i = 0 := by omega
            rfl
  | succ c ih =>
    by_cases hic : i = c + 1
    · rw [hic]
    · have := ih (by omega)
      rw [tsF, if_neg (by rw [this]; exact h), this]
/-- the segments -/
def tsL (T S : ByteArray) (c : Nat) : List Sg := (List.range c).map (fun i => tsG T S (56 * i))
theorem tsL_succ (T S : ByteArray) (c : Nat) : tsL T S (c + 1) = tsL T S c ++ [tsG T S (56 * c)] := by simp [tsL, List.range_succ]
theorem tsL_length (T S : ByteArray) (c : Nat) : (tsL T S c).length = c := by simp [tsL]
def TsPost (T S : ByteArray) (c : Nat) (w : World) (e : Ending) (w' : World) : Prop :=
  (∃ v, e = .returned (.tuple #[v, .int .i64 (tsF T S c)]) ∧ (tsF T S c = 0 → Segs w' v (tsL T S c)) ∧ (tsF T S c ≠ 0 → v = .slice none 0 0)) ∧ Below w.heap.size w w'

set_option maxRecDepth 100000 in
set_option maxHeartbeats 4000000 in
theorem takeSegs_any (T S : ByteArray) (c : Nat) (w : World) (hc : c ≤ 4) (hT : 56 * c ≤ T.size) (hs : T.size < 9223372036854775808) (hS : S.size < 9223372036854775808) :
    Calls Try.prog 61 #[.string T, .string S, .int .u64 c] w (TsPost T S c w) := by
  have HT := Lib.hid (fun W => taker_any T W)
  have HG := Lib.hid (fun (i : Nat) (hi : i < c) (W : World) (B : Nat) (h : Left W B (T.extract (56 * i) T.size)) => takeSeg_any T S (56 * i) B W h (by omega) hs hS)
  have c4 : (c : Int) ≤ 4 := by omega
  have H56 := Lib.hid hT
  clear hT
  go_enter Try.func61, Try.ntmps61
  go_wp2_with fail
  refine (HT.out _).mono ?_
  rintro r w1 ⟨rfl, hl, hb, hsz1⟩
  obtain ⟨i0, hi, hz0, hz1, hz2⟩ := info_parts sg_info
  obtain ⟨w2, hmk, hown, hgr⟩ := run_makeSlice_owned (P := Try.prog) w1 w1.heap.size 23 45 i0 _ 4 Try.underlying23 hi hz0 hz1 .i64 .u64 c (by omega) (by rw [hz2]; omega) (by unfold maxLen; omega) (Nat.le_refl _)
  have HB2 := Lib.hid (hb.grown hgr (by omega) (fun k hk => by cases hk))
  have HL2 := Lib.hid (show Left w2 w.heap.size (T.extract (56 * 0) T.size) by
    have h := hgr.block w.heap.size (by omega) (by simp)
    have e : T.extract (56 * 0) T.size = T := by simp
    rw [e]
    exact h.trans hl)
  have HO2 := Lib.hid (show OwnsS w2 (w.heap.size + 1) (.slice (some ⟨w.heap.size + 1, 0, none⟩) 0 c) (tsL T S 0) by rw [hsz1] at hown; exact hown)
  have hs2 : w.heap.size + 1 ≤ w2.heap.size := by have := hgr.size; omega
  clear hown hgr hl hb hi hz0 hz1 hz2 HT
  go_wp2_with fail
  go_loopw [9, 17] (fun sv iv wr => ∃ i : Nat, i ≤ c ∧ iv = .int .u64 i ∧ Left wr w.heap.size (T.extract (56 * i) T.size) ∧ OwnsS wr (w.heap.size + 1) sv (tsL T S i) ∧ Below w.heap.size w wr ∧ w.heap.size + 1 ≤ wr.heap.size ∧ tsF T S i = 0) (fun _ iv _ => c - (intOf iv).toNat)
  case atStart => exact ⟨0, Nat.zero_le _, rfl, HL2.out, HO2.out, HB2.out, hs2, rfl⟩
  case round =>
    obtain ⟨i, hi, rfl, hl, hown, hb, hsz, hF⟩ := hrel
    have HL := Lib.hid hl
    have HO := Lib.hid hown
    have HB := Lib.hid hb
    have HF := Lib.hid hF
    have HSZ := Lib.hid hsz
    clear hl hown hb hF hsz
    by_cases hlt : i < c
    · have e0 : decide ((i : Int) < (c : Int)) = true := by simp; omega
      have hw1 : IntKind.u64.wrap ((i : Int) + 1) = (i : Int) + 1 := by rw [IntKind.wrap_u64]; omega
      have hg := HG.out i hlt wr w.heap.size HL.out
      have HTE := Lib.hid (show tsF T S (i + 1) = tsE T S (56 * i) by rw [tsF, if_pos HF.out])
      have HTL := Lib.hid (tsL_succ T S i)
      obtain ⟨⟨ga, gp, gd, gz⟩, hG⟩ : ∃ G, tsG T S (56 * i) = G := ⟨_, rfl⟩
      obtain ⟨E, hE⟩ : ∃ E, tsE T S (56 * i) = E := ⟨_, rfl⟩
      rw [hG] at hg HTL
      rw [hE] at hg HTE
      have HGC := Lib.hid hg
      have HLT := Lib.hid hlt
      clear hg hG hE hlt
      go_wp2_with fail
      refine HGC.out.mono ?_
      rintro r w3 ⟨rfl, ht⟩
      have HT3 := Lib.hid ht
      clear ht
      unfold sgV
      simp only
      by_cases hE : E = 0
      · subst hE
        have HO3 := Lib.hid (HO.out.same fun g hg hl => HT3.out.other g (by omega) hl)
        have hs3 : w.heap.size + 1 ≤ w3.heap.size := Nat.le_trans HSZ.out HT3.out.size
        have hl3 : w.heap.size < w3.heap.size := by omega
        have HB3 := Lib.hid (HB.out.trans HT3.out.bel)
        have HL3 := Lib.hid HT3.out.left
        have hBB3 := (balloc (balloc (Below.refl w3.heap.size w3) (.cells #[.int .u64 ga, .int .i64 gp, .string gd, .int .u64 gz] 45)) (.cells #[.int .u64 ga, .int .i64 gp, .string gd, .int .u64 gz] 45)).block
        clear HO HB HT3 HGC HG HL
        go_wp2_with ((
          at_builtin
          refine wpList_append_seg rfl _ _ rfl (w.heap.size + 1) _ (tsL T S i) ⟨ga, gp, gd, gz⟩ rfl (HO3.out.same fun g hg hl => ?_) _ _ rfl (fun j u hj => ?_) (by rw [tsL_length]; omega) (by simp; omega) ?_
          rotate_right
          intro v' w5 hown hgrow))
        · have hlt := HLT.out
          have hBA := Lib.hid (balloc (Below.refl w3.heap.size w3) (.cells #[.int .u64 ga, .int .i64 gp, .string gd, .int .u64 gz] 45))
          have hBB := balloc hBA.out (.cells #[.int .u64 ga, .int .i64 gp, .string gd, .int .u64 gz] 45)
          refine ⟨⟨i + 1, by omega, by go_num, ?_, ?_, ?_, ?_, HTE.out⟩, by simp [intOf]; omega⟩
          · rw [show 56 * (i + 1) = 56 * i + 56 by omega]
            refine ((hgrow.block w.heap.size (by simp; omega) (fun h => HO3.out.other (k := w.heap.size) (by omega) h.symm)).trans ?_).trans HL3.out
            exact hBB.block w.heap.size hl3
          · rw [HTL.out]; exact hown
          · exact (HB3.out.trans (hBB.mono (by omega))).grown hgrow (by simp; omega) (fun k hk => by
              by_cases h : w.heap.size ≤ k
              · exact h
              · exact absurd hk (HO3.out.other (by omega)))
          · have := hgrow.size
            simp at this
            omega
        · exact hBB3 g hl
        · have e := heap_alloc_new (w3.alloc (.cells #[.int .u64 ga, .int .i64 gp, .string gd, .int .u64 gz] 45)) (.cells #[.int .u64 ga, .int .i64 gp, .string gd, .int .u64 gz] 45)
          rw [World.size_alloc] at e
          rw [Nat.zero_add, Lib.cell_of_heap e]
          simpa [sgRow, sgCells] using hj
      · have q : (E != 0) = true := by simpa using hE
        have HPO := Lib.hid (show tsF T S c = E by rw [tsF_stop (i := i + 1) (by rw [HTE.out]; exact hE) c HLT.out, HTE.out])
        go_wp2_with fail
        go_ret2
        exact ⟨⟨.slice none 0 0, by rw [HPO.out]; rfl, fun h => absurd (HPO.out.symm.trans h) hE, fun _ => rfl⟩, (HB.out.trans HT3.out.bel).alloc (by have := HT3.out.size; have := HSZ.out; omega) _⟩
    · obtain rfl : i = c := by omega
      have e0 : decide ((i : Int) < (i : Int)) = false := by simp
      go_wp2_with fail
      go_ret2
      refine ⟨⟨_, by rw [HF.out]; rfl, fun _ => HO.out.segs, fun h => absurd HF.out h⟩, HB.out⟩
end Go.Proofs.Ythaieajakdcodaa
