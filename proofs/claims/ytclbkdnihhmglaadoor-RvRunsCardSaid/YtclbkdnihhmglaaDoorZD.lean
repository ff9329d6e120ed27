/- number: the number of bytes, the lowest first; lowest: the lowest bytes of a number. A block that is known whole; lowest: the lowest bytes of a number. copy from a string into a row of bytes, as far as there is room. -/
import Derived.Test.YtclbkdnihhmglaaDoorZB
import Derived.Laws.Shifts
import Derived.Laws.Bits64b
import Derived.OwnWalk
import Derived.Laws.OwnMore
import Derived.Lib.UnsafeStr
import Derived.Lib.LazyBuf
namespace Go.Proofs.YtclbkdnihhmglaaDoor
open Go.RowKit

theorem pow256 (k : Nat) : 2 ^ (8 * k) = 256 ^ k := by rw [Nat.pow_mul]
/-- one byte more, above all the others -/
theorem or_byte (v : Int) (b k : Nat) (v0 : 0 ≤ v) (v1 : v < 256 ^ k) (hb : b < 256) (hk : k < 8) :
    bits BinOp.or IntKind.u64 v (IntKind.u64.wrap (IntKind.u64.wrap (b : Int) * 2 ^ (8 * k))) = v + (b : Int) * 256 ^ k := by
  obtain ⟨n, rfl⟩ := Int.eq_ofNat_of_zero_le v0
  have hp : (256 : Nat) ^ k ≤ 256 ^ 7 := Nat.pow_le_pow_right (by omega) (by omega)
  have hbp : b * 256 ^ k ≤ 255 * 256 ^ 7 := Nat.mul_le_mul (by omega) hp
  have hv : n < 256 ^ k := Int.ofNat_lt.1 (by rw [Int.natCast_pow]; exact v1)
  have e1 : IntKind.u64.wrap (b : Int) = b := by rw [IntKind.wrap_u64]; omega
  have e2 : (b : Int) * 2 ^ (8 * k) = ((b * 256 ^ k : Nat) : Int) := by rw [← pow256, Int.natCast_mul, Int.natCast_pow]; rfl
  have e3 : IntKind.u64.wrap ((b * 256 ^ k : Nat) : Int) = ((b * 256 ^ k : Nat) : Int) := by rw [IntKind.wrap_u64]; omega
  rw [e1, e2, e3, bits_or_u64_nat n (b * 256 ^ k) (by omega) (by omega)]
  have e4 : n ||| b * 256 ^ k = b * 256 ^ k + n := by
    rw [← pow256, Nat.or_comm, Nat.mul_comm b]
    exact (Nat.two_pow_add_eq_or_of_lt (by rw [pow256]; exact hv) b).symm
  rw [e4, Int.natCast_add, Int.natCast_mul, Int.natCast_pow]
  exact Int.add_comm _ _
theorem take_snoc (s : ByteArray) (k : Nat) (h : k < s.size) : s.data.toList.take (k + 1) = s.data.toList.take k ++ [s[k]] := by
  rw [List.take_succ_eq_append_getElem (by simpa using h)]; rfl

set_option maxHeartbeats 2000000 in
theorem number_any (s : ByteArray) (w : World) (hs : s.size ≤ 8) :
    Calls Tryd.prog 50 #[.string s] w fun e w' => e = .returned (.int .u64 (M.num s.data.toList)) ∧ w = w' := by
  go_enter Tryd.func50, Tryd.ntmps50
  go_wp2_with fail
  go_loop [3, 7] (fun v i => ∃ k : Nat, k ≤ s.size ∧ i = .int .i64 k ∧ v = .int .u64 (M.num (s.data.toList.take k))) (fun _ i => s.size - (intOf i).toNat)
  case atStart => exact ⟨0, Nat.zero_le _, rfl, rfl⟩
  case round =>
    obtain ⟨k, hk, rfl, rfl⟩ := hrel
    by_cases hlt : k < s.size
    · have v0 := M.num_nonneg (s.data.toList.take k)
      have v1 := M.num_lt (s.data.toList.take k)
      rw [List.length_take_of_le (by simp; omega)] at v1
      have HN := Lib.hid (M.num_snoc (s.data.toList.take k) s[k])
      rw [← take_snoc s k hlt, List.length_take_of_le (by simp; omega)] at HN
      have HO := Lib.hid (or_byte _ s[k].toNat k v0 v1 s[k].toNat_lt (by omega))
      obtain ⟨v, hv⟩ : ∃ v, M.num (s.data.toList.take k) = v := ⟨_, rfl⟩
      rw [hv] at v0 HN HO ⊢
      clear hv v1
      go_wp2_with fail
      go_round
      case rel => exact ⟨k + 1, by omega, by go_num, by rw [HN.out, HO.out]⟩
      case measure => simp [intOf]; omega
    · have hd : decide ((k : Int) < (s.size : Int)) = false := by simp; omega
      have HE := Lib.hid (show s.data.toList.take k = s.data.toList from List.take_of_length_le (by simp; omega))
      obtain ⟨v, hv⟩ : ∃ v, M.num (s.data.toList.take k) = v := ⟨_, rfl⟩
      rw [hv]
      rw [HE.out] at hv
      have HV := Lib.hid hv
      clear hv
      go_wp2_with fail
      go_ret
      exact ⟨by rw [HV.out]; rfl, rfl⟩
end Go.Proofs.YtclbkdnihhmglaaDoor

namespace Go.Proofs.YtclbkdnihhmglaaDoor
open Go.RowKit

/-- block g is just these cells of type t, none of them frozen -/
def Whole (W : World) (g : Nat) (t : TypeId) (cs : Array Value) : Prop := W.heap[g]? = some (.cells cs t (0, 0))
theorem Whole.lt {W : World} {g : Nat} {t : TypeId} {cs : Array Value} (h : Whole W g t cs) : g < W.heap.size := (Array.getElem?_eq_some_iff.1 h).1
theorem Whole.cell {W : World} {g : Nat} {t : TypeId} {cs : Array Value} (h : Whole W g t cs) (i : Nat) : W.cell? ⟨g, i, none⟩ = cs[i]? := cell_of_row W g i cs t (0, 0) h
theorem Whole.free {W : World} {g : Nat} {t : TypeId} {cs : Array Value} (h : Whole W g t cs) (i : Nat) : W.frozen? ⟨g, i, none⟩ = false := by
  simp [World.frozen?, show W.heap[g]? = _ from h]
theorem Whole.put {W : World} {g : Nat} {t : TypeId} {cs : Array Value} (h : Whole W g t cs) (i : Nat) (u : Value) : Whole (W.setCell ⟨g, i, none⟩ u) g t (cs.setIfInBounds i u) := by
  unfold Whole at h ⊢
  simp [World.setCell, Array.getElem?_modify, h]
theorem Whole.of_full {W : World} {base g n : Nat} {t : TypeId} {size : Nat} {xs : List Value} (h : W.ownsRow base t size (.slice (some ⟨g, 0, none⟩) n n) n xs) : Whole W g t xs.toArray := by
  rcases h.2 with ⟨e, _⟩ | ⟨g', cap, cur, e, _, hb, _, _, hs, hx⟩
  · cases e
  · cases e
    rw [List.take_of_length_le (by simp [hs])] at hx
    unfold Whole
    rw [hb, ← hx]

theorem byteCells_snoc (l : List UInt8) (b : UInt8) : Lib.byteCells (l ++ [b]) = Lib.byteCells l ++ [.int .u8 b.toNat] := by simp [Lib.byteCells]

theorem made_nought (n : Nat) : (madeCells (Value.int .u8 0).cells (n * 1)).toList = List.replicate n (Value.int .u8 0) := by
  apply List.ext_getElem
  · simp [madeCells]
  · intro i h1 h2
    simp [madeCells, Value.cells, Nat.mod_one]

set_option maxHeartbeats 2000000 in
theorem lowest_any (v : Nat) (n : Nat) (w : World) (hv : v < 18446744073709551616) (hn : n ≤ 8) :
    Calls Tryd.prog 56 #[.int .u64 v, .int .i64 n] w fun e w' => e = .returned (.string ⟨(M.lowest v n).toArray⟩) ∧ Below w.heap.size w w' := by
  obtain ⟨i0, hi, hz0, hz1, hz2⟩ := info_parts (show (Tryd.prog.info? 5).map (fun i => (i.zero, i.size, i.bytes)) = some (some (.int .u8 0), 1, 1) by kernel_rfl)
  go_enter Tryd.func56, Tryd.ntmps56
  go_wp2_with (at_make; refine wpList_make_full _ rfl _ _ 45 rfl w.heap.size 5 i0 (.int .u8 0) 1 Tryd.underlying45 hi hz0 hz1 .i64 .i64 _ _ n rfl rfl rfl rfl (by rw [hz2]; omega) (by unfold maxLen; omega) (Nat.le_refl _) ?_; intro w0 hown0 hgrow0)
  have B0 := Lib.hid ((Below.refl _ _).grown hgrow0 (Nat.le_refl _) (fun k hk => by cases hk))
  have W0 := Whole.of_full hown0
  rw [made_nought] at W0
  have W0 := Lib.hid W0
  have HZ := Lib.hid (show w.heap.size < w0.heap.size from W0.out.lt)
  clear hown0 hgrow0
  obtain ⟨z, hz⟩ : ∃ z, w.heap.size = z := ⟨_, rfl⟩
  rw [hz] at W0 ⊢
  go_loopw [11] (fun i wr => ∃ k : Nat, k ≤ n ∧ i = .int .i64 k ∧ Whole wr z 5 (Lib.byteCells (M.lowest v k) ++ List.replicate (n - k) (Value.int .u8 0)).toArray ∧ Below w.heap.size w wr) (fun i _ => n - (intOf i).toNat)
  case atStart => exact ⟨0, by omega, rfl, by simpa [M.lowest, Lib.byteCells] using W0.out, B0.out⟩
  case round =>
    obtain ⟨k, hk, rfl, hW, hb⟩ := hrel
    have HW := Lib.hid hW
    have HB := Lib.hid hb
    clear hW hb
    by_cases hlt : k < n
    · have c0 : wr.cell? ⟨z, k, none⟩ = some (.int .u8 0) := by
        rw [HW.out.cell, List.getElem?_toArray, List.getElem?_append_right (by rw [Lib.byteCells_length, M.lowest_length]; omega), Lib.byteCells_length, M.lowest_length]
        rw [List.getElem?_replicate, if_pos (by omega)]
      have f0 := HW.out.free k
      have hk0 : (0 : Int) ≤ (k : Int) := Int.natCast_nonneg _
      have hk1 : (k : Int) < (n : Int) := by omega
      have HV := Lib.hid (show (v : Int) / 2 ^ (8 * k) % 256 = ((UInt8.ofNat (v / 256 ^ k % 256)).toNat : Int) by
        rw [show ((UInt8.ofNat (v / 256 ^ k % 256)).toNat) = v / 256 ^ k % 256 by simp, ← pow256]
        rw [Int.natCast_emod, Int.natCast_ediv, Int.natCast_pow]; rfl)
      go_wp2_with fail
      go_roundw
      case rel =>
        refine ⟨k + 1, by omega, by go_num, ?_, HB.out.setCell (p := ⟨z, k, none⟩) (by simp; omega) _⟩
        rw [HV.out]
        have h := HW.out.put k (.int .u8 ((UInt8.ofNat (v / 256 ^ k % 256)).toNat : Int))
        have e : ((Lib.byteCells (M.lowest v k) ++ List.replicate (n - k) (Value.int .u8 0)).toArray).setIfInBounds k (.int .u8 ((UInt8.ofNat (v / 256 ^ k % 256)).toNat : Int)) =
            (Lib.byteCells (M.lowest v (k + 1)) ++ List.replicate (n - (k + 1)) (Value.int .u8 0)).toArray := by
          rw [List.setIfInBounds_toArray, M.lowest_snoc, byteCells_snoc, List.set_append_right k _ (by rw [Lib.byteCells_length, M.lowest_length]; omega), Lib.byteCells_length, M.lowest_length]
          rw [show n - k = (n - (k + 1)) + 1 by omega, List.replicate_succ, Nat.sub_self, List.set_cons_zero]
          simp
        rw [e] at h
        exact h
      case measure => simp [intOf]; omega
    · obtain rfl : k = n := by omega
      have hd : decide ((k : Int) < (k : Int)) = false := by simp
      have W1 := HW.out
      rw [Nat.sub_self, List.replicate_zero, List.append_nil] at W1
      have hcv : (convert 45 9 (.slice (some ⟨z, 0, none⟩) k k)).run Tryd.prog wr = .ok (.string ⟨(M.lowest v k).toArray⟩) wr := by
        have h := run_convert_bytes_arg wr 45 5 Tryd.underlying45 Tryd.underlying5 z 0 k k ((M.lowest v k).map (fun b => (b.toNat : Int))) (by simp [M.lowest_length]) (fun i hi => by
          rw [Nat.zero_add, W1.cell, List.getElem?_toArray]
          simp [Lib.byteCells, List.getD_eq_getElem?_getD, M.lowest_length, hi]) 9 Tryd.underlying9
        rw [h]
        simp [strOfNums, Function.comp_def]
      have HCV := Lib.hid hcv
      clear W1 hcv
      have hcv := HCV.out
      go_wp2_with fail
      go_ret
      exact ⟨rfl, HB.out⟩
end Go.Proofs.YtclbkdnihhmglaaDoor

namespace Go.Proofs.YtclbkdnihhmglaaDoor
open Go.RowKit

theorem run_copy_str {P : Program} (w : World) (dT sT ty elem : TypeId) (b o dLen dCap n : Nat) (t : ByteArray)
    (hu : P.underlying dT = some (.slice elem)) (hz : ∀ w, (Go.sizeOf elem).run P w = .ok 1 w) (hn : Nat.min t.size dLen = n)
    (hc : ∀ j, j < n → (w.cell? ⟨b, o + j, none⟩).isSome = true) (hf : ∀ j, j < n → w.frozen? ⟨b, o + j, none⟩ = false) :
    (Builtin.copy_ #[dT, sT] ty #[.slice (some ⟨b, o, none⟩) dLen dCap, .string t]).run P w = .ok (goInt n) (w.setCells b o ((t.data.toList.take n).map fun x => Value.int .u8 (x.toNat : Int))) := by
  have hl : ((t.data.toList.take n).map fun x => Value.int .u8 (x.toNat : Int)).length = n := by
    rw [List.length_map, List.length_take, ← Lib.size_eq]
    exact Nat.min_eq_left (by rw [← hn]; exact Nat.min_le_left _ _)
  have hst := run_storeCells_cells (P := P) b o ((t.data.toList.take n).map fun x => Value.int .u8 (x.toNat : Int)) 0 w (by rw [hl]; simpa using hc) (by rw [hl]; simpa using hf) (by
    intro v hv
    obtain ⟨x, _, rfl⟩ := List.mem_map.1 hv
    rfl)
  simp [Builtin.copy_, run_underlying hu, Builtin.lenOf, Builtin.firstCells, hz, hn]
  rw [List.map_take] at hst
  rw [hst]
  rfl

theorem step_copy_str {P : Program} {ops : Array Oper} {o : Oper} {a : Act} {w : World} {K : Act → World → Prop} {Q : Exit → Act → World → Prop} {E : Prop}
    (hg : o.guard = none) (d x : Operand) (dT sT : TypeId) (hop : o.op = Op.call { callee := Callee.builtin Builtin.copy, args := #[d, x], argTypes := #[dT, sT] })
    (elem : TypeId) (hu : P.underlying dT = some (.slice elem)) (hz : ∀ w, (Go.sizeOf elem).run P w = .ok 1 w)
    (b off dLen dCap n : Nat) (hd : a.eval d = .slice (some ⟨b, off, none⟩) dLen dCap) (t : ByteArray) (hx : a.eval x = .string t) (hn : Nat.min t.size dLen = n)
    (hc : ∀ j, j < n → (w.cell? ⟨b, off + j, none⟩).isSome = true) (hf : ∀ j, j < n → w.frozen? ⟨b, off + j, none⟩ = false)
    (hK : K (a.put o.dst (goInt n)) (w.setCells b off ((t.data.toList.take n).map fun x => Value.int .u8 (x.toNat : Int)))) :
    if Region.wanted o (yielded ops a.tmps) = true then Oper.wp P o a w K Q else E := by
  have hw : Region.wanted o (yielded ops a.tmps) = true := by simp [Region.wanted, hg]
  rw [if_pos hw]
  have hrun := run_copy_str (P := P) w dT sT o.type elem b off dLen dCap n t hu hz hn hc hf
  rw [List.map_take] at hK
  unfold Oper.wp
  simp [execOp, hop, resolve, invoke, builtin, hd, hx, hrun, Result.andThen]
  exact hK

theorem setCells_other {b k : Nat} (hk : k ≠ b) : ∀ (vs : List Value) (o : Nat) (w : World), (w.setCells b o vs).heap[k]? = w.heap[k]?
  | [], _, _ => rfl
  | v :: r, o, w => (setCells_other hk r (o + 1) _).trans (Below.heap_setCell w ⟨b, o, none⟩ v k hk)
theorem setCells_size {b : Nat} : ∀ (vs : List Value) (o : Nat) (w : World), (w.setCells b o vs).heap.size = w.heap.size
  | [], _, _ => rfl
  | v :: r, o, w => (setCells_size r (o + 1) _).trans (by simp [World.setCell])
theorem setCells_same {b : Nat} {t : TypeId} {fz : Nat × Nat} : ∀ (vs : List Value) (o : Nat) (w : World) (cs : List Value), w.heap[b]? = some (.cells cs.toArray t fz) → o + vs.length ≤ cs.length →
    (w.setCells b o vs).heap[b]? = some (.cells (cs.take o ++ vs ++ cs.drop (o + vs.length)).toArray t fz)
  | [], o, w, cs, h, _ => by
    show w.heap[b]? = _
    simpa using h
  | v :: r, o, w, cs, h, hl => by
    have h1 : (w.setCell ⟨b, o, none⟩ v).heap[b]? = some (.cells (cs.set o v).toArray t fz) := by
      simp [World.setCell, Array.getElem?_modify, h]
    have := setCells_same r (o + 1) _ (cs.set o v) h1 (by simp at hl ⊢; omega)
    refine this.trans ?_
    congr 3
    rw [List.length_cons] at hl
    have e1 : (cs.set o v).take (o + 1) = cs.take o ++ [v] := by
      rw [List.take_succ_eq_append_getElem (by simp; omega), List.getElem_set_self, List.take_set_of_le (Nat.le_refl o)]
    have e2 : (cs.set o v).drop (o + 1 + r.length) = cs.drop (o + (r.length + 1)) := by
      rw [List.drop_set_of_lt (by omega)]
      congr 1; omega
    rw [e1, e2, List.length_cons]
    simp
theorem setCells_below {B b : Nat} {a : World} (hb : B ≤ b) (vs : List Value) (o : Nat) (w : World) (h : Below B a w) : Below B a (w.setCells b o vs) := below_setCells hb vs o w h
end Go.Proofs.YtclbkdnihhmglaaDoor
