/- Package ir: insts hands out a function's instructions, block by block, whatever the loop's body does, if it keeps what lay when it began, and the blocks of blocks and of instructions. -/
import Derived.RangeFuncNested
import Derived.RangeFuncBound
import Derived.RangeFuncCalls
import Derived.RangeFuncLeaves
import Derived.Shelf.Abstract
import Derived.Shelf.RegionOpen
import Derived.WalkKit
import Derived.OwnWalkIn
import Derived.TacticsInMore
import Derived.LoopNIn
import Derived.LoopIn
import Derived.Sort.BigQuietIn
import Derived.Test.YtcfniagmnkngfaaBJ
namespace Go.Proofs.Ytcfniagmnkngfaa
open Go.RowKit Go.Shelf

/-- what lay below B0, and each block of a block or of an instruction, lies as it lay -/
structure KeepB (B0 : Nat) (W W' : World) : Prop where
  low : Below B0 W W'
  same : ∀ (k : Nat) (cs : Array Value) (t : TypeId) (f : Nat × Nat), (t = 90 ∨ t = 85) → W.heap[k]? = some (.cells cs t f) → W'.heap[k]? = some (.cells cs t f)
theorem KeepB.trans {B0 : Nat} {A B C : World} (h : KeepB B0 A B) (k : KeepB B0 B C) : KeepB B0 A C := ⟨h.low.trans k.low, fun i cs t f ht hi => k.same i cs t f ht (h.same i cs t f ht hi)⟩
theorem KeepB.below {B0 : Nat} {W W' : World} (hB : B0 ≤ W.heap.size) (h : Below W.heap.size W W') : KeepB B0 W W' := ⟨h.mono hB, fun i _ _ _ _ hi => (h.block i (Array.getElem?_eq_some_iff.1 hi).1).trans hi⟩
theorem below_grown {B0 : Nat} {W W' : World} {row : Option Nat} (h : W.grownBy W' row) (hB : B0 ≤ W.heap.size) (hr : ∀ r, row = some r → B0 ≤ r) : Below B0 W W' :=
  ⟨h.os, h.tape, h.output, h.size, fun b hb => h.block b (Nat.lt_of_lt_of_le hb hB) (fun e => by have := hr b e.symm; omega)⟩
theorem KeepB.grown {B0 : Nat} {W W' : World} {row : Option Nat} (h : W.grownBy W' row) (hB : B0 ≤ W.heap.size) (hr : ∀ r, row = some r → B0 ≤ r ∧ ∀ cs t f, (t = 90 ∨ t = 85) → W.heap[r]? ≠ some (.cells cs t f)) : KeepB B0 W W' :=
  ⟨below_grown h hB (fun r e => (hr r e).1), fun i cs t f ht hi => (h.block i (Array.getElem?_eq_some_iff.1 hi).1 (fun e => (hr i e.symm).2 cs t f ht hi)).trans hi⟩
theorem keepB_b {B0 : Nat} {w : World} (hB : B0 ≤ w.heap.size) (W : World) (l : Nat) (o o' : Obj) (hl : w.heap.size ≤ l) (h : W.heap[l]? = some o) (hc : o.isCells = false) (_ : o.isWalk = false) : KeepB B0 W (W.putObj l o') :=
  KeepB.grown (grownBy_putObj' W l o') (by have := (Array.getElem?_eq_some_iff.1 h).1; omega) (fun r e => by cases e; exact ⟨by omega, fun cs t f _ hr => by rw [h] at hr; cases hr; cases hc⟩)

/-- a function's cells -/
def fcells (s : ByteArray) (b p : Int) (v : Value) : Array Value := #[.string s, .int .i64 b, .int .i64 p, v]
theorem insts_in (n : Nat) (s : ByteArray) (b p : Int) (v : Value) (w : World) :
    CallsIn Fence.wide n Try.prog 120 #[.agg #[.string s, .int .i64 b, .int .i64 p, v]] w fun e w' => e = .returned (.func (.func 143) #[] #[.pointer (some ⟨w.heap.size, 0, none⟩)]) ∧ w' = w.alloc (.cells #[.string s, .int .i64 b, .int .i64 p, v] 78) := by
  refine callsIn_of_wp Try.func120 rfl trivial ?_ rfl
  simp only [Try.ntmps120, List.size_toArray, List.length_cons, List.length_nil, Nat.reduceAdd, Nat.reduceSub, Array.replicate_succ, Array.replicate_zero, List.push_toArray, List.append_toArray, List.nil_append, List.cons_append]
  gi_wp2
  go_ret
  exact ⟨rfl, by simp⟩

/-- what is handed out -/
def encI (x : It) : Array Value := #[.int .i64 x.n, inV x.i x.v]
set_option maxRecDepth 100000 in
set_option maxHeartbeats 4000000 in
theorem its_in (n : Nat) (hn : 1 ≤ n) (l B na ca : Nat) (C : Option Addr) (bl : List Bk) (ts : List (List It)) (Q : It → Prop) (hQ : ∀ x ∈ ts.flatten, Q x)
    (w0 : World) (hna : bl.length = na) (hn9 : na ≤ 9223372036854775807) (hi9 : ∀ b ∈ bl, b.i.length ≤ 9223372036854775807) (hD : BlkIts w0 (.slice C na ca) bl ts)
    (J Jx : List {x // Q x} → World → Prop) (W : World) (hb0 : Below w0.heap.size w0 W) (hJ : AbidesFrom W.heap.size J)
    (hY : ∀ pre x W1, J pre W1 → pre.length < ts.flatten.length → YieldAt Fence.wide (n - 1) Try.prog l (encI x.1) W1 fun e W' =>
      (e = .returned (.bool true) ∧ J (pre ++ [x]) W' ∧ KeepB w0.heap.size W1 W') ∨ (e = .returned (.bool false) ∧ Jx (pre ++ [x]) W'))
    (hB : W.cell? ⟨B, 3, none⟩ = some (.slice C na ca)) (h0 : J [] W) :
    CallsIn Fence.wide n Try.prog 143 #[.func (.yield l) #[] #[], .pointer (some ⟨B, 0, none⟩)] W fun e W' => (∃ v, e = .returned v) ∧
      ((∃ ys, ys.map Subtype.val = ts.flatten ∧ J ys W') ∨ (∃ pre, (pre.map Subtype.val) <+: ts.flatten ∧ Jx pre W')) := by
  refine callsIn_of_wp Try.func143 rfl trivial ?_ rfl
  simp only [Try.ntmps143, List.size_toArray, List.length_cons, List.length_nil, Nat.reduceAdd, Nat.reduceSub, Array.replicate_succ, Array.replicate_zero, List.push_toArray, List.append_toArray, List.nil_append, List.cons_append]
  have HY := Lib.hid hY
  have HJ := Lib.hid hJ
  have H0 := Lib.hid h0
  have HQ := Lib.hid hQ
  have HD := Lib.hid hD
  have HB0 := Lib.hid hb0
  have HNA := Lib.hid (show bl.length ≤ na ∧ na ≤ bl.length by omega)
  have HI9 := Lib.hid hi9
  have n9 : (na : Int) ≤ 9223372036854775807 := by omega
  clear hY hJ h0 hQ hD hb0 hna hi9 hn9
  gi_wp2
  clear hB
  gi_loopw [10] (fun p wr => ∃ (k : Nat) (pre : List {x // Q x}), k ≤ na ∧ p = .int .i64 k ∧ pre.map Subtype.val = (ts.take k).flatten ∧ J pre wr ∧ Below w0.heap.size w0 wr ∧ W.heap.size ≤ wr.heap.size)
    (fun p _ => na - (intOf p).toNat)
  case atStart => exact ⟨0, [], Nat.zero_le _, rfl, by simp, H0.out, HB0.out, Nat.le_refl _⟩
  case round =>
    obtain ⟨k, pre, hk, rfl, he, hj, hb, hsz⟩ := hrel
    have HE := Lib.hid he
    have HJP := Lib.hid hj
    have HB := Lib.hid hb
    have HSZ := Lib.hid hsz
    clear he hj hb hsz
    by_cases hlt : k < na
    · have hkl : k < bl.length := by have := HNA.out; omega
      have hkt : k < ts.length := by rw [HD.out.2.1]; exact hkl
      obtain ⟨b, off, cap, A, c, hv, hbl, hbk, hci, hits, hmap, hnum⟩ := HD.out.2.2 k hkl hkt
      have hv' := (Value.slice.inj hv).1
      subst hv'
      obtain ⟨c0, -, c2, c3, c4, ⟨A5, z5, c5, -⟩, c6, A7, z7, c7, -⟩ := BkAt.next _ _ _ _ _ hbl HB.out hbk
      have c1 := (cellNext hbl HB.out _).trans hci
      have hk0 : (0 : Int) ≤ (k : Int) := Int.natCast_nonneg _
      have hk1 : (k : Int) < (na : Int) := by omega
      have HLT := Lib.hid hlt
      obtain ⟨m, hm⟩ : ∃ m, bl[k].i.length = m := ⟨_, rfl⟩
      have HI := Lib.hid (show m ≤ 9223372036854775807 from hm ▸ HI9.out bl[k] (List.getElem_mem hkl))
      have HM := Lib.hid (show ts[k].length ≤ m ∧ m ≤ ts[k].length by rw [← hm, ← hmap, List.length_map]; omega)
      have HTK := Lib.hid (show (ts.take (k + 1)).flatten = (ts.take k).flatten ++ ts[k] by rw [List.take_succ_eq_append_getElem hkt, List.flatten_append]; simp)
      have HTF := Lib.hid (show (ts.take (k + 1)).flatten <+: ts.flatten from ⟨(ts.drop (k + 1)).flatten, by rw [← List.flatten_append, List.take_append_drop]⟩)
      have HMEM := Lib.hid (show ∀ x ∈ ts[k], x ∈ ts.flatten from fun x hx => List.mem_flatten.2 ⟨_, List.getElem_mem hkt, hx⟩)
      obtain ⟨t, ht⟩ : ∃ t, ts[k] = t := ⟨_, rfl⟩
      rw [hm] at hits c1
      rw [ht] at hits hnum HM HTK HMEM
      have HITS := Lib.hid hits
      have m9 : (m : Int) ≤ 9223372036854775807 := by have := HI.out; omega
      obtain ⟨P, hP⟩ : ∃ P, bl[k].p = P := ⟨_, rfl⟩
      rw [hP] at hnum c0
      have HNUM := Lib.hid hnum
      obtain ⟨K1, hK1⟩ : ∃ K1, bl[k].e.k = K1 := ⟨_, rfl⟩
      obtain ⟨K2, hK2⟩ : ∃ K1, bl[k].e.a = K1 := ⟨_, rfl⟩
      obtain ⟨K3, hK3⟩ : ∃ K1, bl[k].e.t = K1 := ⟨_, rfl⟩
      obtain ⟨K4, hK4⟩ : ∃ K1, bl[k].e.l.length = K1 := ⟨_, rfl⟩
      obtain ⟨K5, hK5⟩ : ∃ K1, bl[k].e.e = K1 := ⟨_, rfl⟩
      obtain ⟨K6, hK6⟩ : ∃ K1, bl[k].e.m.length = K1 := ⟨_, rfl⟩
      rw [hK1] at c2
      rw [hK2] at c3
      rw [hK3] at c4
      rw [hK4] at c5
      rw [hK5] at c6
      rw [hK6] at c7
      have HIT9 := Lib.hid (show k < ts.length from hkt)
      clear hits hnum hm hP hK1 hK2 hK3 hK4 hK5 hK6 hmap hci hbk hkl hkt ht
      gi_wp2
      have HBK := Lib.hid (heap_alloc_new wr (.cells #[.int .i64 P, .slice A m c, .int .i64 K1, .int .i64 K2, .int .i64 K3, .slice A5 K4 z5, .int .i64 K5, .slice A7 K6 z7] 90))
      have HJ1 := Lib.hid (fun s W1 W' (h1 : J s W1) (hg : W1.grownBy W' none) => HJ.out s W1 W' none h1 hg (fun r e => by cases e))
      have HJPx := Lib.hid (HJ1.out _ _ _ HJP.out (World.grownBy_alloc wr (.cells #[.int .i64 P, .slice A m c, .int .i64 K1, .int .i64 K2, .int .i64 K3, .slice A5 K4 z5, .int .i64 K5, .slice A7 K6 z7] 90) none))
      have HBx := Lib.hid (HB.out.trans ((balloc (Below.refl _ wr) (.cells #[.int .i64 P, .slice A m c, .int .i64 K1, .int .i64 K2, .int .i64 K3, .slice A5 K4 z5, .int .i64 K5, .slice A7 K6 z7] 90)).mono HB.out.size))
      have HSZx := Lib.hid (show W.heap.size ≤ (wr.alloc (.cells #[.int .i64 P, .slice A m c, .int .i64 K1, .int .i64 K2, .int .i64 K3, .slice A5 K4 z5, .int .i64 K5, .slice A7 K6 z7] 90)).heap.size by have := HSZ.out; simp; omega)
      generalize wr.alloc (.cells #[.int .i64 P, .slice A m c, .int .i64 K1, .int .i64 K2, .int .i64 K3, .slice A5 K4 z5, .int .i64 K5, .slice A7 K6 z7] 90) = W1 at *
      generalize wr.heap.size = BB at *
      clear c0 c1 c2 c3 c4 c5 c6 c7
      gi_loopw [17] (fun p wi => ∃ (j : Nat) (pr : List {x // Q x}), j ≤ m ∧ p = .int .i64 j ∧ pr.map Subtype.val = (ts.take k).flatten ++ t.take j ∧ J pr wi ∧ Below w0.heap.size w0 wi ∧ W.heap.size ≤ wi.heap.size ∧ wi.heap[BB]? = some (.cells #[.int .i64 P, .slice A m c, .int .i64 K1, .int .i64 K2, .int .i64 K3, .slice A5 K4 z5, .int .i64 K5, .slice A7 K6 z7] 90 (0, 0)))
        (fun p _ => m - (intOf p).toNat)
      case atStart => exact ⟨0, pre, Nat.zero_le _, rfl, by rw [HE.out]; simp, HJPx.out, HBx.out, HSZx.out, HBK.out⟩
      case round =>
        obtain ⟨j, pr, hj, rfl, he, hjj, hb, hsz, hbk⟩ := hrel
        have HE2 := Lib.hid he
        have HJ2 := Lib.hid hjj
        have HB2 := Lib.hid hb
        have HSZ2 := Lib.hid hsz
        have HBK2 := Lib.hid hbk
        clear he hjj hb hsz hbk
        by_cases hlj : j < m
        · have hjt : j < t.length := by have := HM.out; omega
          have hi := HITS.out
          obtain ⟨b2, off2, hA, hb2, hit⟩ := RowOf.at_ hi hjt
          subst hA
          obtain ⟨g0, g1, g2, g3, g4, g5, ⟨AA, cc, hvv⟩, -⟩ := ItAt.next _ _ _ _ _ hb2 HB2.out hit
          obtain ⟨x, hx⟩ : ∃ x : {x // Q x}, x = ⟨t[j], HQ.out _ (HMEM.out _ (List.getElem_mem hjt))⟩ := ⟨_, rfl⟩
          have HX := Lib.hid (show encI x.1 = #[.int .i64 (wrap64 (P + j)), .agg #[.int .i64 t[j].i.o, .int .i64 t[j].i.a, .int .i64 t[j].i.b, .int .u64 t[j].i.k, .string t[j].i.s, t[j].v]] by rw [hx]; unfold encI inV; rw [HNUM.out j hjt])
          have HE3 := Lib.hid (show (pr ++ [x]).map Subtype.val = (ts.take k).flatten ++ t.take (j + 1) by
            rw [List.map_append, HE2.out, List.take_succ_eq_append_getElem hjt, hx, List.append_assoc]
            rfl)
          have hlen : pr.length < ts.flatten.length := by
            have h1 := congrArg List.length HE3.out
            have h2 := HTF.out.length_le
            rw [HTK.out] at h2
            simp only [List.length_map, List.length_append, List.length_take, List.length_cons, List.length_nil] at h1 h2
            omega
          have HPF := Lib.hid (show (pr ++ [x]).map Subtype.val <+: ts.flatten by
            rw [HE3.out]
            refine List.IsPrefix.trans ?_ HTF.out
            rw [HTK.out]
            exact ⟨t.drop (j + 1), by rw [List.append_assoc, List.take_append_drop]⟩)
          obtain ⟨X0, h0⟩ : ∃ X, t[j].i.o = X := ⟨_, rfl⟩
          obtain ⟨X1, h1⟩ : ∃ X, t[j].i.a = X := ⟨_, rfl⟩
          obtain ⟨X2, h2⟩ : ∃ X, t[j].i.b = X := ⟨_, rfl⟩
          obtain ⟨X3, h3⟩ : ∃ X, t[j].i.k = X := ⟨_, rfl⟩
          obtain ⟨X4, h4⟩ : ∃ X, t[j].i.s = X := ⟨_, rfl⟩
          obtain ⟨nn, hnn⟩ : ∃ X, t[j].i.l.length = X := ⟨_, rfl⟩
          rw [hnn] at hvv
          rw [h0, h1, h2, h3, h4, hvv] at HX
          rw [h0] at g0
          rw [h1] at g1
          rw [h2] at g2
          rw [h3] at g3
          rw [h4] at g4
          rw [hvv] at g5
          have hy0 := HY.out pr x (wr.alloc (.cells #[.int .i64 X0, .int .i64 X1, .int .i64 X2, .int .u64 X3, .string X4, .slice AA nn cc] 85)) (HJ1.out _ _ _ HJ2.out (World.grownBy_alloc _ _ _)) hlen
          rw [HX.out] at hy0
          obtain ⟨fn, tmps, assign, body, hy, hR⟩ := hy0
          have HR := Lib.hid hR
          have i0 : (0 : Int) ≤ (j : Int) := Int.natCast_nonneg _
          have i1 : (j : Int) < (m : Int) := by omega
          have HLJ := Lib.hid hlj
          have hin := balloc (Below.refl _ wr) (.cells #[.int .i64 X0, .int .i64 X1, .int .i64 X2, .int .u64 X3, .string X4, .slice AA nn cc] 85)
          have hbk2 := (hin.block BB (Array.getElem?_eq_some_iff.1 HBK2.out).1).trans HBK2.out
          have q0 := Lib.cell_of_heap hbk2 0
          have hne : BB ≠ wr.heap.size := Nat.ne_of_lt (Array.getElem?_eq_some_iff.1 HBK2.out).1
          simp only [List.getElem?_toArray, List.getElem?_cons_zero] at q0
          clear hin hbk2 hR hlen h0 h1 h2 h3 h4 hnn hvv hx hi hit hlj hjt
          gi_wp2
          refine HR.out.mono ?_
          rintro e W3 (⟨rfl, hJ3, hk3⟩ | ⟨rfl, hJx3⟩)
          · have hin := balloc (Below.refl _ wr) (.cells #[.int .i64 X0, .int .i64 X1, .int .i64 X2, .int .u64 X3, .string X4, .slice AA nn cc] 85)
            have HBK3 := Lib.hid (hk3.same BB _ _ _ (.inl rfl) ((hin.block BB (Array.getElem?_eq_some_iff.1 HBK2.out).1).trans HBK2.out))
            have HJ3 := Lib.hid hJ3
            have HB3 := Lib.hid ((HB2.out.trans (hin.mono HB2.out.size)).trans hk3.low)
            have HSZ3 := Lib.hid (show W.heap.size ≤ W3.heap.size from by
              have h1 := HSZ2.out
              have h2 := hk3.low.size
              simp at h2
              omega)
            clear hJ3 hk3 hin
            gi_wp2
            go_roundw
            case rel => exact ⟨j + 1, pr ++ [x], HLJ.out, by go_num, HE3.out, HJ3.out, HB3.out, HSZ3.out, HBK3.out⟩
            case measure => have := HLJ.out; simp [intOf]; omega
          · gi_wp2
            refine bodyPost_ret (results_none rfl _ _ _) rfl ?_
            exact ⟨⟨_, rfl⟩, .inr ⟨pr ++ [x], HPF.out, hJx3⟩⟩
        · have hd : decide ((j : Int) < (m : Int)) = false := by simp; omega
          have HE4 := Lib.hid (show pr.map Subtype.val = (ts.take (k + 1)).flatten by
            rw [HE2.out, HTK.out, List.take_of_length_le (l := t) (i := j) (by have := HM.out; omega)])
          gi_wp2
          go_roundw
          case rel => exact ⟨k + 1, pr, HLT.out, by go_num, HE4.out, HJ2.out, HB2.out, HSZ2.out⟩
          case measure => have := HLT.out; simp [intOf]; omega
    · have hd : decide ((k : Int) < (na : Int)) = false := by simp; omega
      gi_wp2
      go_end0
      exact ⟨⟨_, rfl⟩, .inl ⟨pre, by have h := HE.out; rw [List.take_of_length_le (by have := HD.out.2.1; have := HNA.out; omega)] at h; exact h, HJP.out⟩⟩

/-- what insts hands back, for a loop over it -/
theorem its_stops (n : Nat) (hn : 1 ≤ n) (B na ca : Nat) (C : Option Addr) (bl : List Bk) (ts : List (List It)) (Q : It → Prop) (hQ : ∀ x ∈ ts.flatten, Q x)
    (w0 w : World) (hna : bl.length = na) (hn9 : na ≤ 9223372036854775807) (hi9 : ∀ b ∈ bl, b.i.length ≤ 9223372036854775807) (hD : BlkIts w0 (.slice C na ca) bl ts)
    (hb0 : Below w0.heap.size w0 w) (hB : w.cell? ⟨B, 3, none⟩ = some (.slice C na ca)) :
    SeqStopsK Fence.wide n Try.prog 143 #[.pointer (some ⟨B, 0, none⟩)] (fun x : {x // Q x} => encI x.1) (KeepB w0.heap.size)
      (fun ys => ys.map Subtype.val = ts.flatten) (fun pre => (pre.map Subtype.val) <+: ts.flatten) ts.flatten.length w := fun l J Jx W hW hJ _ hY h0 =>
  its_in n hn l B na ca C bl ts Q hQ w0 hna hn9 hi9 hD J Jx W (hb0.trans (hW.mono hb0.size)) hJ hY ((hW.cell (p := ⟨B, 3, none⟩) (World.block_lt_of_cell? w _ hB)).trans hB) h0
end Go.Proofs.Ytcfniagmnkngfaa
