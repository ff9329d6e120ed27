/- Walks of wordAt and Back of package enc. -/
import Derived.Test.YtmedlebepgobeaaDoorL1
import Derived.Deep.QuietTactic
import Derived.BigQuiet
import Derived.OwnWalk
import Derived.Laws.OwnMore
import Derived.Deep.AppendLies
import Derived.Outline
namespace Go.Proofs.YtmedlebepgobeaaDoor
open Go.RowKit

def byteAt (l : List UInt8) (i : Nat) : Int := ((l.getD i 0).toNat : Int)
/-- the word of four bytes from i on -/
def wat (l : List UInt8) (i : Nat) : Int := byteAt l i + byteAt l (i + 1) * 256 + byteAt l (i + 2) * 65536 + byteAt l (i + 3) * 16777216
theorem byteAt_in (l : List UInt8) (i : Nat) : 0 ≤ byteAt l i ∧ byteAt l i < 256 := by
  unfold byteAt; have := (l.getD i 0).toNat_lt; omega
theorem wat_in (l : List UInt8) (i : Nat) : 0 ≤ wat l i ∧ wat l i < 4294967296 := by
  have h0 := byteAt_in l i
  have h1 := byteAt_in l (i + 1)
  have h2 := byteAt_in l (i + 2)
  have h3 := byteAt_in l (i + 3)
  unfold wat; omega
theorem byteAt_of (s : ByteArray) (i : Nat) (h : i < s.size) : ((s[i]'h).toNat : Int) = byteAt s.data.toList i := by
  unfold byteAt
  have h' : i < s.data.toList.length := by simpa using h
  have : s.data.toList.getD i 0 = s[i]'h := by
    rw [List.getD_eq_getElem?_getD, List.getElem?_eq_getElem h']
    rfl
  rw [this]
theorem wat_or {a b c d : Int} (a0 : 0 ≤ a) (a1 : a < 256) (b0 : 0 ≤ b) (b1 : b < 256) (c0 : 0 ≤ c) (c1 : c < 256) (d0 : 0 ≤ d) (d1 : d < 256) :
    bits .or .u32 (bits .or .u32 (bits .or .u32 (a % 4294967296) (b % 4294967296 * 256 % 4294967296)) (c % 4294967296 * 65536 % 4294967296)) (d % 4294967296 * 16777216 % 4294967296) = a + b * 256 + c * 65536 + d * 16777216 := by
  rw [Int.emod_eq_of_lt (a := a) (by omega) (by omega), Int.emod_eq_of_lt (a := b) (by omega) (by omega), Int.emod_eq_of_lt (a := c) (by omega) (by omega), Int.emod_eq_of_lt (a := d) (by omega) (by omega),
    Int.emod_eq_of_lt (a := b * 256) (by omega) (by omega), Int.emod_eq_of_lt (a := c * 65536) (by omega) (by omega), Int.emod_eq_of_lt (a := d * 16777216) (by omega) (by omega),
    M.or_lo 8 256 rfl (x := b * 256) (by omega) (by omega) (by omega) (by omega) (by omega) (by omega), M.or_lo 16 65536 rfl (x := c * 65536) (by omega) (by omega) (by omega) (by omega) (by omega) (by omega), M.or_lo 24 16777216 rfl (x := d * 16777216) (by omega) (by omega) (by omega) (by omega) (by omega) (by omega)]

set_option maxHeartbeats 1000000 in
theorem wat_any (s : ByteArray) (i : Nat) (hi : i + 3 < s.size) (hs : s.size ≤ 9223372036854775807) (w : World) :
    Calls Tryd.prog 35 #[.string s, .int .i64 i] w fun e w' => e = .returned (.int .u32 (wat s.data.toList i)) ∧ Below w.heap.size w w' := by
  have a0 : (0 : Int) ≤ (i : Int) := Int.natCast_nonneg _
  have a1 : (i : Int) < s.size := by omega
  have a2 : (i : Int) + 1 < s.size := by omega
  have a3 : (i : Int) + 2 < s.size := by omega
  have a4 : (i : Int) + 3 < s.size := by omega
  have e1 : i < s.size := by omega
  have e2 : i + 1 < s.size := by omega
  have e3 : i + 2 < s.size := by omega
  have HE := Lib.hid (wat_or (byteAt_in s.data.toList i).1 (byteAt_in s.data.toList i).2 (byteAt_in s.data.toList (i + 1)).1 (byteAt_in s.data.toList (i + 1)).2 (byteAt_in s.data.toList (i + 2)).1 (byteAt_in s.data.toList (i + 2)).2 (byteAt_in s.data.toList (i + 3)).1 (byteAt_in s.data.toList (i + 3)).2)
  have b1 : IntKind.i64.wrap ((i : Int) + 1) = (i : Int) + 1 := IntWalk.i64_in _ (by omega)
  have b2 : IntKind.i64.wrap ((i : Int) + 2) = (i : Int) + 2 := IntWalk.i64_in _ (by omega)
  have b3 : IntKind.i64.wrap ((i : Int) + 3) = (i : Int) + 3 := IntWalk.i64_in _ (by omega)
  have c1 : (0 : Int) ≤ (i : Int) + 1 := by omega
  have c2 : (0 : Int) ≤ (i : Int) + 2 := by omega
  have c3 : (0 : Int) ≤ (i : Int) + 3 := by omega
  have d1 : ((i : Int) + 1).toNat = i + 1 := by omega
  have d2 : ((i : Int) + 2).toNat = i + 2 := by omega
  have d3 : ((i : Int) + 3).toNat = i + 3 := by omega
  go_enter Tryd.func35, Tryd.ntmps35
  go_wp2_with fail
  go_quiet (fail)
  go_wp2_with fail
  go_ret
  refine ⟨ret_int ?_, ⟨rfl, rfl, rfl, Nat.le_refl _, fun _ _ => rfl⟩⟩
  rw [byteAt_of s i e1, byteAt_of s (i + 1) e2, byteAt_of s (i + 2) e3, byteAt_of s (i + 3) hi]
  exact HE.out

/-- the kind that Take finds, 0 if it finds none -/
def kindAt (v : Int) : Nat := ((List.range 32).find? fun k => decide (1 ≤ k) && M.okAt v k).getD 0
def good (v : Int) : Bool := decide (1 ≤ kindAt v)
theorem kindAt_of {v : Int} {K : Nat} (k1 : 1 ≤ K) (k2 : K < 32) (h : M.okAt v K = true) : kindAt v = K := by
  unfold kindAt
  cases e : (List.range 32).find? fun k => decide (1 ≤ k) && M.okAt v k with
  | none =>
    rw [List.find?_eq_none] at e
    have := e K (by simp [k2])
    simp [k1, h] at this
  | some j =>
    have h1 := List.find?_some e
    have h2 := List.mem_of_find?_eq_some e
    simp at h1 h2
    exact M.ok_one_kind h2 k2 h1.1 k1 h1.2 h
theorem good_ok {v : Int} (h : good v = true) : 1 ≤ kindAt v ∧ kindAt v < 32 ∧ M.okAt v (kindAt v) = true := by
  unfold good at h
  unfold kindAt at h ⊢
  cases e : (List.range 32).find? fun k => decide (1 ≤ k) && M.okAt v k with
  | none => rw [e] at h; simp at h
  | some j =>
    have h1 := List.find?_some e
    have h2 := List.mem_of_find?_eq_some e
    simp at h1 h2
    exact ⟨h1.1, h2, h1.2⟩
theorem good_no {v : Int} (h : good v = false) : ∀ K : Nat, 1 ≤ K → K < 32 → M.okAt v K = false := fun K k1 k2 => by
  cases e : M.okAt v K
  · rfl
  · have := kindAt_of k1 k2 e
    simp [good, this] at h
    omega
/-- the cells of the instruction that Take finds -/
def opCells (v : Int) : List Value := [.int .i64 (kindAt v), .int .i64 (M.tRd (kindAt v) v), .int .i64 (M.tA (kindAt v) v), .int .i64 (M.tB (kindAt v) v), .int .i64 (M.tI (kindAt v) v)]
def cellsTo (l : List UInt8) (k : Nat) : List Value := (List.range k).flatMap fun j => opCells (wat l (4 * j))
theorem cellsTo_succ (l : List UInt8) (k : Nat) : cellsTo l (k + 1) = cellsTo l k ++ opCells (wat l (4 * k)) := by
  simp [cellsTo, List.range_succ]
theorem Tryd.info23 : (Tryd.prog.info? 23).map (fun i => (i.zero, i.size, i.bytes)) = some (some (.agg #[.int .i64 0, .int .i64 0, .int .i64 0, .int .i64 0, .int .i64 0]), 5, 40) := by kernel_rfl
theorem own_next {W w' : World} {base : Nat} {e : TypeId} {size n : Nat} {v : Value} {xs : List Value} (h : W.ownsRow base e size v n xs) (hb : Below W.heap.size W w') : w'.ownsRow base e size v n xs :=
  h.kept (row := none) ⟨hb.os, hb.tape, hb.output, hb.size, fun i hi _ => hb.block i hi⟩ (by cases v.ownBlock <;> simp)
theorem below_grown {W w' : World} {e : TypeId} {size n : Nat} {v : Value} {xs : List Value} {w0 : World} (h : W.ownsRow w0.heap.size e size v n xs) (hb : Below w0.heap.size w0 W) (hg : W.grownBy w' v.ownBlock) : Below w0.heap.size w0 w' :=
  hb.grown hg hb.size (fun k hk => (h.lt k hk).1)

theorem five_new (w : World) (o : Obj) (c0 c1 c2 c3 c4 : Value) : ∀ (j : Nat) (u : Value), [c0, c1, c2, c3, c4][j]? = some u → ((w.alloc o).alloc (.cells #[c0, c1, c2, c3, c4] 23)).cell? ((⟨w.heap.size + 1, 0, none⟩ : Addr).add j) = some u := by
  have h := World.news_of_block (cs := #[c0, c1, c2, c3, c4]) (t := 23) (fr := (0, 0)) (heap_alloc_new (w.alloc o) (.cells #[c0, c1, c2, c3, c4] 23))
  simpa using h
def BackRel (l : List UInt8) (w : World) (out i : Value) (wr : World) : Prop :=
  ∃ m k : Nat, m = 4 * k ∧ m ≤ l.length ∧ i = .int .i64 m ∧ (∀ j, j < k → good (wat l (4 * j)) = true) ∧ wr.ownsRow w.heap.size 23 5 out k (cellsTo l k) ∧ Below w.heap.size w wr
def BackPost (l : List UInt8) (w : World) (e : Ending) (w' : World) : Prop :=
  ((∃ v, (∀ j, j < l.length / 4 → good (wat l (4 * j)) = true) ∧ e = .returned (.tuple #[v, .int .i64 0]) ∧ w'.ownsRow w.heap.size 23 5 v (l.length / 4) (cellsTo l (l.length / 4))) ∨
    ((∃ j, j < l.length / 4 ∧ good (wat l (4 * j)) = false) ∧ e = .returned (.tuple #[.slice none 0 0, .int .i64 5]))) ∧ Below w.heap.size w w'

theorem back_cut (s : ByteArray) (w : World) (hs : s.size ≤ 2000) (h4 : s.size % 4 ≠ 0) : Calls Tryd.prog 21 #[.string s] w fun e w' => e = .returned (.tuple #[.slice none 0 0, .int .i64 2]) ∧ Below w.heap.size w w' := by
  have t1 : (((s.size : Int) % 4) != 0) = true := by simp; omega
  go_enter Tryd.func21, Tryd.ntmps21
  go_wp2_with fail
  go_ret2
  exact ⟨rfl, Below.refl _ _⟩
set_option maxRecDepth 100000 in
set_option maxHeartbeats 4000000 in
theorem back_any (s : ByteArray) (w : World) (hs : s.size ≤ 2000) (h4 : s.size % 4 = 0) (T : Tabs w) : Calls Tryd.prog 21 #[.string s] w (BackPost s.data.toList w) := by
  obtain ⟨i0, hi, hz0, hz1, hz2⟩ := info_parts Tryd.info23
  have t1 : (((s.size : Int) % 4) != 0) = false := by simp; omega
  have hlen : s.data.toList.length = s.size := by simp
  have HL := Lib.hid hlen
  have H4 := Lib.hid h4
  have HT := Lib.hid T
  clear hlen h4 T
  go_enter Tryd.func21, Tryd.ntmps21
  go_wp2_with (at_make; refine wpList_make_own _ rfl _ _ 37 rfl w.heap.size 23 i0 (.agg #[.int .i64 0, .int .i64 0, .int .i64 0, .int .i64 0, .int .i64 0]) 5 Tryd.underlying37 hi hz0 hz1 .i64 .i64 _ (s.size / 4) rfl rfl (by first | rfl | omega) (by rw [hz2]; omega) (by unfold maxLen; omega) (Nat.le_refl _) ?_; intro w0 hown0 hgrow0)
  go_loopw [4, 5] (fun out i wr => BackRel s.data.toList w out i wr) (fun _ i _ => s.size - (intOf i).toNat)
  case atStart => exact ⟨0, 0, rfl, Nat.zero_le _, rfl, fun j h => by omega, hown0, (Below.refl _ _).grown hgrow0 (Nat.le_refl _) (fun k hk => by cases hk)⟩
  case round =>
    obtain ⟨m, k, hmk, hm, rfl, hg, hown, hb⟩ := hrel
    rw [HL.out] at hm
    have TR := Lib.hid (HT.out.next hb)
    have HMK := Lib.hid hmk
    have HG := Lib.hid hg
    have HO := Lib.hid hown
    have HB := Lib.hid hb
    clear hmk hg hown hb
    clear hown0 hgrow0
    by_cases hlt : m < s.size
    · have h3 : m + 3 < s.size := by have := HMK.out; have := H4.out; omega
      have hk1 : 4 * k + 3 < s.size := by have := HMK.out; omega
      obtain ⟨v0, v1⟩ := wat_in s.data.toList m
      cases hgo : good (wat s.data.toList m)
      · have hno := Lib.hid (good_no hgo)
        have HGO := Lib.hid hgo
        clear hgo
        go_wp2_with fail
        refine (wat_any s m h3 (by omega) _).mono ?_
        rintro e w1 ⟨rfl, hb1⟩
        have T1 := Lib.hid (TR.out.next hb1)
        have B1 := Lib.hid (bthen HB.out hb1)
        clear hb1
        go_wp2_with fail
        refine (take_f _ hno.out _ v0 v1 T1.out).mono ?_
        rintro e w2 ⟨rfl, hb2⟩
        have B2 := Lib.hid (bthen B1.out hb2)
        clear hb2
        go_wp2_with fail
        go_ret2
        exact ⟨.inr ⟨⟨k, by rw [HL.out]; omega, by rw [← HMK.out]; exact HGO.out⟩, rfl⟩, balloc B2.out _⟩
      · obtain ⟨c0, c1, c2, c3, c4, hop, htk⟩ : ∃ c0 c1 c2 c3 c4 : Int, opCells (wat s.data.toList m) = [.int .i64 c0, .int .i64 c1, .int .i64 c2, .int .i64 c3, .int .i64 c4] ∧ ∀ W, Tabs W →
            Calls Tryd.prog 15 #[.int .u32 (wat s.data.toList m)] W fun e w' => e = .returned (.tuple #[.agg #[.int .i64 c0, .int .i64 c1, .int .i64 c2, .int .i64 c3, .int .i64 c4], .int .i64 0]) ∧ Below W.heap.size W w' := by
          obtain ⟨g1, g2, g3⟩ := good_ok hgo
          exact ⟨_, _, _, _, _, rfl, fun W TW => take_t _ _ g1 g2 g3 W v0 v1 TW⟩
        have HGO := Lib.hid hgo
        have HOP := Lib.hid hop
        have HTK := Lib.hid htk
        clear hgo hop htk
        go_wp2_with fail
        refine (wat_any s m h3 (by omega) _).mono ?_
        rintro e w1 ⟨rfl, hb1⟩
        have T1 := Lib.hid (TR.out.next hb1)
        have B1 := Lib.hid (bthen HB.out hb1)
        have O1 := Lib.hid (own_next HO.out hb1)
        clear hb1
        go_wp2_with fail
        refine (HTK.out _ T1.out).mono ?_
        rintro e w2 ⟨rfl, hb2⟩
        have B2 := Lib.hid (bthen B1.out hb2)
        have O2 := Lib.hid (own_next O1.out hb2)
        have z2 : w.heap.size ≤ w2.heap.size := B2.out.size
        clear hb2
        go_wp2_with (at_builtin; refine wpList_append_own _ rfl _ _ 37 rfl w.heap.size 23 i0 (.agg #[.int .i64 0, .int .i64 0, .int .i64 0, .int .i64 0, .int .i64 0]) 5 40 Tryd.underlying37 hi hz0 hz1 hz2 rfl (by decide) _ _ _ rfl ((O2.out.alloc _).alloc _) ⟨w2.heap.size + 1, 0, none⟩ 1 1 [.int .i64 c0, .int .i64 c1, .int .i64 c2, .int .i64 c3, .int .i64 c4] rfl rfl (five_new _ _ _ _ _ _ _) (fun x hx => by simp at hx; rcases hx with rfl | rfl | rfl | rfl | rfl <;> rfl) (by unfold maxLen; omega) (by omega) (by simp; omega) ?_; intro v' w3 hown3 hgrow3 hnil3)
        have B3 := Lib.hid (below_grown ((O2.out.alloc _).alloc _) (balloc (balloc B2.out _) _) hgrow3)
        have O3 := Lib.hid hown3
        clear hgrow3 hnil3 hown3
        go_wp2_with fail
        go_roundw
        case rel =>
          refine ⟨m + 4, k + 1, by rw [HMK.out]; omega, by rw [HL.out]; omega, by go_num, fun j hj => ?_, ?_, B3.out⟩
          · by_cases e : j = k
            · subst e; rw [← HMK.out]; exact HGO.out
            · exact HG.out j (by omega)
          · rw [cellsTo_succ, ← HMK.out, HOP.out]; exact O3.out
        case measure => simp [intOf]; omega
    · have hnlt : decide ((m : Int) < (s.size : Int)) = false := by simp; omega
      go_wp2_with fail
      go_ret2
      have hk : k = s.data.toList.length / 4 := by rw [HL.out]; have := HMK.out; omega
      refine ⟨.inl ⟨_, fun j hj => HG.out j (by omega), rfl, ?_⟩, HB.out⟩
      rw [← hk]
      exact HO.out
end Go.Proofs.YtmedlebepgobeaaDoor
