/- Package bit: rows taken by a reader: of numbers, instructions, blocks, functions, globals. -/
import Derived.Test.YtjldddpchiaalaaUB
namespace Go.Proofs.Ytjldddpchiaalaa
open Go.RowKit
namespace Q

theorem info_In : (Try.prog.info? 76).any (fun i => i.size == 6 && i.bytes == 72 && (i.zero.elim false fun z => z.cells.size == 6)) = true := by kernel_rfl
/-- what a call that takes one gives back -/
def EpIn (x : In) (n : Nat) (w' : World) (val : Value) : Prop := ∃ A c, val = .agg #[.int .i64 x.o, .int .i64 x.a, .int .i64 x.b, .int .u64 x.k, .string x.s, .slice A x.l.length c] ∧ Fresh n w' (fun U => Ints U (.slice A x.l.length c) x.l)
set_option maxRecDepth 100000 in
set_option maxHeartbeats 4000000 in
theorem takeIn_any (take : St → In × St) (g : FuncId) {rb : Nat} {r : St} (most : Nat) {W : World} (h : Rd W rb r) (hm : most ≤ 100) (hcf : ∀ args U, (callFunc g args).run Try.prog U = .ok (.enter g args) U)
    (hC : ∀ q U, Rd U rb q → Calls Try.prog g #[.pointer (some ⟨rb, 0, none⟩)] U fun e w' => ∃ val, e = .returned val ∧ EpIn (take q).1 U.heap.size w' val ∧ RdTo U rb (take q).2 w') :
    Calls Try.prog 76 #[.pointer (some ⟨rb, 0, none⟩), .int .u64 most, .func (.func g) #[.pointer (some ⟨rb, 0, none⟩)] #[]] W fun e w' => ∃ A c, e = .returned (.slice A (rowR most take r).1.length c) ∧ Fresh W.heap.size w' (fun U => Insts U (.slice A (rowR most take r).1.length c) (rowR most take r).1) ∧ RdTo W rb (rowR most take r).2 w' := by
  have HK := Lib.hid (count_any most h)
  have HCF := Lib.hid hcf
  have HC := Lib.hid hC
  have HRB := Lib.hid h.lt
  have hle := bet_le (lo := 0) (hi := most) (e := 4) (by decide) r
  unfold rowR
  obtain ⟨⟨n, q⟩, hq⟩ : ∃ t, betweenR 0 most 4 r = t := ⟨_, rfl⟩
  rw [hq] at HK hle ⊢
  dsimp only at HK hle ⊢
  have n1 : (n : Int) ≤ 100 := by omega
  have HN := Lib.hid (show n ≤ 100 by omega)
  clear h hcf hC hm hle hq
  go_enter Try.func76, Try.ntmps76
  go_wp2_with fail
  refine HK.out.mono ?_
  rintro e w1 ⟨rfl, k1⟩
  have K1 := Lib.hid k1
  clear k1
  go_wp2_with fail
  go_loopw [7, 11] (fun lv iv wr => ∃ i : Nat, i ≤ n ∧ iv = .int .i64 i ∧ Gath 76 6 InYs W.heap.size (timesR take i q).1 lv wr ∧ RdTo W rb (timesR take i q).2 wr) (fun _ iv _ => n - (intOf iv).toNat)
  case atStart => exact ⟨0, Nat.zero_le _, rfl, Gath.start, K1.out⟩
  case round =>
    obtain ⟨i, hi, rfl, hG, hR⟩ := hrel
    have HG := Lib.hid hG
    have HR := Lib.hid hR
    have hll := timesR_len take i q
    by_cases hlt : i < n
    · have HS := Lib.hid (timesR_snoc take i q)
      have HCI := Lib.hid (HC.out _ wr hR.1)
      obtain ⟨⟨xs0, q1⟩, hxq⟩ : ∃ t, timesR take i q = t := ⟨_, rfl⟩
      rw [hxq] at HG HR HS HCI hll
      dsimp only at HG HR HS HCI hll
      obtain ⟨⟨⟨xo, xa, xb, xk, xs, xl⟩, q2⟩, hx⟩ : ∃ t, take q1 = t := ⟨_, rfl⟩
      rw [hx] at HS HCI
      dsimp only at HS HCI
      obtain ⟨A, c, hv⟩ := HG.out.form
      rw [hll] at hv
      subst hv
      have hk0 : (0 : Int) ≤ (i : Int) := Int.natCast_nonneg _
      have hk1 : (i : Int) < (n : Int) := by omega
      have HLT := Lib.hid hlt
      have HLL := Lib.hid (show xs0.length = i from hll)
      clear hG hR hxq hx hlt hi hll
      go_wp2_with fail
      rw [HCF.out]
      refine Calls.mono HCI.out ?_
      rintro e w2 ⟨val, rfl, hE, hR2⟩
      unfold EpIn at hE
      dsimp only at hE
      obtain ⟨A0, c0, rfl, hF⟩ := hE
      have HR2 := Lib.hid hR2
      have HGB := Lib.hid (HG.out.move (fun h k => h.mono k) hR2.2 (fun r e => by cases e; exact HRB.out))
      have HX := Lib.hid (show InYs (SameIn wr.heap.size w2.heap.size w2) [.int .i64 xo, .int .i64 xa, .int .i64 xb, .int .u64 xk, .string xs, .slice A0 xl.length c0] 0 ⟨xo, xa, xb, xk, xs, xl⟩ from ⟨rfl, rfl, rfl, rfl, rfl, _, _, rfl, fun U hU => hF U hU⟩)
      have HW2 := Lib.hid hR2.2.size
      clear hR2 hF
      obtain ⟨i0, z0, hi0, hz0, hz1, hz2, hz3⟩ := info_any info_In
      obtain ⟨ob, hob⟩ : ∃ o, Obj.cells #[.int .i64 xo, .int .i64 xa, .int .i64 xb, .int .u64 xk, .string xs, .slice A0 xl.length c0] 76 (0, 0) = o := ⟨_, rfl⟩
      have HGC := Lib.hid (HGB.out.move (fun h k => h.mono k) (World.grownBy_alloc w2 ob none) (fun r e => by cases e))
      have HX2 := Lib.hid (HX.out.mono (S' := SameIn wr.heap.size (w2.alloc ob).heap.size (w2.alloc ob)) (fun U hU => ⟨by have := hU.1; rw [World.size_alloc] at this; omega, fun b b1 b2 => (hU.2 b b1 (by rw [World.size_alloc]; omega)).trans (Lib.alloc_old w2 ob b b2)⟩))
      have HNW := Lib.hid (World.news_of_block (cs := #[.int .i64 xo, .int .i64 xa, .int .i64 xb, .int .u64 xk, .string xs, .slice A0 xl.length c0]) (show (w2.alloc ob).heap[w2.heap.size]? = some (.cells #[.int .i64 xo, .int .i64 xa, .int .i64 xb, .int .u64 xk, .string xs, .slice A0 xl.length c0] 76 (0, 0)) by rw [heap_alloc_new, hob]))
      subst hob
      obtain ⟨ys, ho, hy⟩ := HGC.out
      rw [HLL.out] at ho
      have HO := Lib.hid ho
      have HY := Lib.hid hy
      have HZ := Lib.hid (show i0.size = 6 ∧ i0.bytes = 72 ∧ z0.cells.size = 6 from ⟨hz1, hz2, hz3⟩)
      have HI := Lib.hid (show Try.prog.info? 76 = some i0 ∧ i0.zero = some z0 from ⟨hi0, hz0⟩)
      clear ho hy hz1 hz2 hz3 hi0 hz0
      go_wp2_with (at_builtin; refine wpList_append_new rfl _ _ 69 76 rfl W.heap.size i0 z0 Try.underlying69 HI.out.1 HI.out.2 (by rw [HZ.out.1]; exact HZ.out.2.2) (by rw [HZ.out.1]; decide) (.slice A i c) i ys rfl (by rw [HZ.out.1]; exact HO.out) ⟨w2.heap.size, 0, none⟩ 1 [.int .i64 xo, .int .i64 xa, .int .i64 xb, .int .u64 xk, .string xs, .slice A0 xl.length c0] rfl (by rw [HZ.out.1]; rfl) HNW.out (by simp [Value.oneCell']) (by have := HN.out; have := HLT.out; omega) (by rw [HZ.out.2.1]; decide) (by have := HR.out.2.size; have := HW2.out; rw [World.size_alloc]; omega) ?_)
      intro v' w3 hown' hgrow hv'
      rw [HZ.out.1] at hown'
      have HR3 := Lib.hid (show RdTo W rb q2 w3 from by
        have hlt := HGC.out.lt
        have hne : rb ≠ w2.heap.size := by have := HR2.out.1.lt; omega
        have k1 : (w2.alloc (.cells #[.int .i64 xo, .int .i64 xa, .int .i64 xb, .int .u64 xk, .string xs, .slice A0 xl.length c0] 76)).heap[rb]? = w2.heap[rb]? := Lib.alloc_old w2 _ rb HR2.out.1.lt
        have k2 : some rb ≠ (Value.slice A i c).ownBlock := fun e => by have := hlt rb e.symm; have := HRB.out; omega
        refine ⟨⟨(hgrow.block rb (by rw [World.size_alloc]; have := HR2.out.1.lt; omega) k2).trans (k1.trans HR2.out.1.1), HR2.out.1.2⟩, ?_⟩
        refine (HR.out.2.trans HR2.out.2).andThen ((World.grownBy_alloc w2 (.cells #[.int .i64 xo, .int .i64 xa, .int .i64 xb, .int .u64 xk, .string xs, .slice A0 xl.length c0] 76) (Value.slice A i c).ownBlock).trans hgrow) (fun j hj => .inl (hlt j hj).1))
      have HG3 := Lib.hid (show Gath 76 6 InYs W.heap.size (xs0 ++ [⟨xo, xa, xb, xk, xs, xl⟩]) v' w3 from
        Gath.snoc (fun h k => h.mono k) (fun h k k2 => InYs.left h k k2) (fun h k k2 => InYs.right h k k2) (by rw [HLL.out]; exact HO.out) HY.out HR.out.2.size (fun g hg => (HG.out.lt g hg).2) HX2.out rfl (by rw [HLL.out]; exact hown') hgrow (by rw [World.size_alloc]; exact hv'))
      clear hown' hgrow hv'
      go_wp2_with fail
      go_roundw
      case rel => exact ⟨i + 1, HLT.out, by go_num, by rw [HS.out]; exact HG3.out, by rw [HS.out]; exact HR3.out⟩
      case measure => have := HLT.out; simp [intOf]; omega
    · have he : i = n := by omega
      obtain ⟨A, c, hv⟩ := hG.form
      have HF := Lib.hid (hG.done (ROW := Insts) (fun h _ k k2 => in_row h k k2))
      subst he
      subst hv
      have hd : decide ((i : Int) < (i : Int)) = false := by simp
      clear hG hR hlt hi
      go_wp2_with fail
      go_ret
      exact ⟨_, _, rfl, HF.out, HR.out⟩
theorem info_Bk : (Try.prog.info? 74).any (fun i => i.size == 8 && i.bytes == 112 && (i.zero.elim false fun z => z.cells.size == 8)) = true := by kernel_rfl
/-- what a call that takes one gives back -/
def EpBk (x : Bk) (n : Nat) (w' : World) (val : Value) : Prop := ∃ A0 c0 A1 c1 A2 c2, val = .agg #[.int .i64 x.p, .slice A0 x.i.length c0, .int .i64 x.e.k, .int .i64 x.e.a, .int .i64 x.e.t, .slice A1 x.e.l.length c1, .int .i64 x.e.e, .slice A2 x.e.m.length c2] ∧ Fresh n w' (fun U => Insts U (.slice A0 x.i.length c0) x.i) ∧ Fresh n w' (fun U => Ints U (.slice A1 x.e.l.length c1) x.e.l) ∧ Fresh n w' (fun U => Ints U (.slice A2 x.e.m.length c2) x.e.m)
set_option maxRecDepth 100000 in
set_option maxHeartbeats 4000000 in
theorem takeBk_any (take : St → Bk × St) (g : FuncId) {rb : Nat} {r : St} (most : Nat) {W : World} (h : Rd W rb r) (hm : most ≤ 100) (hcf : ∀ args U, (callFunc g args).run Try.prog U = .ok (.enter g args) U)
    (hC : ∀ q U, Rd U rb q → Calls Try.prog g #[.pointer (some ⟨rb, 0, none⟩)] U fun e w' => ∃ val, e = .returned val ∧ EpBk (take q).1 U.heap.size w' val ∧ RdTo U rb (take q).2 w') :
    Calls Try.prog 61 #[.pointer (some ⟨rb, 0, none⟩), .int .u64 most, .func (.func g) #[.pointer (some ⟨rb, 0, none⟩)] #[]] W fun e w' => ∃ A c, e = .returned (.slice A (rowR most take r).1.length c) ∧ Fresh W.heap.size w' (fun U => Blocks U (.slice A (rowR most take r).1.length c) (rowR most take r).1) ∧ RdTo W rb (rowR most take r).2 w' := by
  have HK := Lib.hid (count_any most h)
  have HCF := Lib.hid hcf
  have HC := Lib.hid hC
  have HRB := Lib.hid h.lt
  have hle := bet_le (lo := 0) (hi := most) (e := 4) (by decide) r
  unfold rowR
  obtain ⟨⟨n, q⟩, hq⟩ : ∃ t, betweenR 0 most 4 r = t := ⟨_, rfl⟩
  rw [hq] at HK hle ⊢
  dsimp only at HK hle ⊢
  have n1 : (n : Int) ≤ 100 := by omega
  have HN := Lib.hid (show n ≤ 100 by omega)
  clear h hcf hC hm hle hq
  go_enter Try.func61, Try.ntmps61
  go_wp2_with fail
  refine HK.out.mono ?_
  rintro e w1 ⟨rfl, k1⟩
  have K1 := Lib.hid k1
  clear k1
  go_wp2_with fail
  go_loopw [7, 11] (fun lv iv wr => ∃ i : Nat, i ≤ n ∧ iv = .int .i64 i ∧ Gath 74 8 BkYs W.heap.size (timesR take i q).1 lv wr ∧ RdTo W rb (timesR take i q).2 wr) (fun _ iv _ => n - (intOf iv).toNat)
  case atStart => exact ⟨0, Nat.zero_le _, rfl, Gath.start, K1.out⟩
  case round =>
    obtain ⟨i, hi, rfl, hG, hR⟩ := hrel
    have HG := Lib.hid hG
    have HR := Lib.hid hR
    have hll := timesR_len take i q
    by_cases hlt : i < n
    · have HS := Lib.hid (timesR_snoc take i q)
      have HCI := Lib.hid (HC.out _ wr hR.1)
      obtain ⟨⟨xs0, q1⟩, hxq⟩ : ∃ t, timesR take i q = t := ⟨_, rfl⟩
      rw [hxq] at HG HR HS HCI hll
      dsimp only at HG HR HS HCI hll
      obtain ⟨⟨⟨xp, xi, ⟨xk, xa, xt, xl, xe, xm⟩⟩, q2⟩, hx⟩ : ∃ t, take q1 = t := ⟨_, rfl⟩
      rw [hx] at HS HCI
      dsimp only at HS HCI
      obtain ⟨A, c, hv⟩ := HG.out.form
      rw [hll] at hv
      subst hv
      have hk0 : (0 : Int) ≤ (i : Int) := Int.natCast_nonneg _
      have hk1 : (i : Int) < (n : Int) := by omega
      have HLT := Lib.hid hlt
      have HLL := Lib.hid (show xs0.length = i from hll)
      clear hG hR hxq hx hlt hi hll
      go_wp2_with fail
      rw [HCF.out]
      refine Calls.mono HCI.out ?_
      rintro e w2 ⟨val, rfl, hE, hR2⟩
      unfold EpBk at hE
      dsimp only at hE
      obtain ⟨A0, c0, A1, c1, A2, c2, rfl, hF, hF1, hF2⟩ := hE
      have HR2 := Lib.hid hR2
      have HGB := Lib.hid (HG.out.move (fun h k => h.mono k) hR2.2 (fun r e => by cases e; exact HRB.out))
      have HX := Lib.hid (show BkYs (SameIn wr.heap.size w2.heap.size w2) [.int .i64 xp, .slice A0 xi.length c0, .int .i64 xk, .int .i64 xa, .int .i64 xt, .slice A1 xl.length c1, .int .i64 xe, .slice A2 xm.length c2] 0 ⟨xp, xi, ⟨xk, xa, xt, xl, xe, xm⟩⟩ from ⟨rfl, ⟨_, _, rfl, fun U hU => hF U hU⟩, rfl, rfl, rfl, ⟨_, _, rfl, fun U hU => hF1 U hU⟩, rfl, _, _, rfl, fun U hU => hF2 U hU⟩)
      have HW2 := Lib.hid hR2.2.size
      clear hR2 hF hF1 hF2
      obtain ⟨i0, z0, hi0, hz0, hz1, hz2, hz3⟩ := info_any info_Bk
      obtain ⟨ob, hob⟩ : ∃ o, Obj.cells #[.int .i64 xp, .slice A0 xi.length c0, .int .i64 xk, .int .i64 xa, .int .i64 xt, .slice A1 xl.length c1, .int .i64 xe, .slice A2 xm.length c2] 74 (0, 0) = o := ⟨_, rfl⟩
      have HGC := Lib.hid (HGB.out.move (fun h k => h.mono k) (World.grownBy_alloc w2 ob none) (fun r e => by cases e))
      have HX2 := Lib.hid (HX.out.mono (S' := SameIn wr.heap.size (w2.alloc ob).heap.size (w2.alloc ob)) (fun U hU => ⟨by have := hU.1; rw [World.size_alloc] at this; omega, fun b b1 b2 => (hU.2 b b1 (by rw [World.size_alloc]; omega)).trans (Lib.alloc_old w2 ob b b2)⟩))
      have HNW := Lib.hid (World.news_of_block (cs := #[.int .i64 xp, .slice A0 xi.length c0, .int .i64 xk, .int .i64 xa, .int .i64 xt, .slice A1 xl.length c1, .int .i64 xe, .slice A2 xm.length c2]) (show (w2.alloc ob).heap[w2.heap.size]? = some (.cells #[.int .i64 xp, .slice A0 xi.length c0, .int .i64 xk, .int .i64 xa, .int .i64 xt, .slice A1 xl.length c1, .int .i64 xe, .slice A2 xm.length c2] 74 (0, 0)) by rw [heap_alloc_new, hob]))
      subst hob
      obtain ⟨ys, ho, hy⟩ := HGC.out
      rw [HLL.out] at ho
      have HO := Lib.hid ho
      have HY := Lib.hid hy
      have HZ := Lib.hid (show i0.size = 8 ∧ i0.bytes = 112 ∧ z0.cells.size = 8 from ⟨hz1, hz2, hz3⟩)
      have HI := Lib.hid (show Try.prog.info? 74 = some i0 ∧ i0.zero = some z0 from ⟨hi0, hz0⟩)
      clear ho hy hz1 hz2 hz3 hi0 hz0
      go_wp2_with (at_builtin; refine wpList_append_new rfl _ _ 58 74 rfl W.heap.size i0 z0 Try.underlying58 HI.out.1 HI.out.2 (by rw [HZ.out.1]; exact HZ.out.2.2) (by rw [HZ.out.1]; decide) (.slice A i c) i ys rfl (by rw [HZ.out.1]; exact HO.out) ⟨w2.heap.size, 0, none⟩ 1 [.int .i64 xp, .slice A0 xi.length c0, .int .i64 xk, .int .i64 xa, .int .i64 xt, .slice A1 xl.length c1, .int .i64 xe, .slice A2 xm.length c2] rfl (by rw [HZ.out.1]; rfl) HNW.out (by simp [Value.oneCell']) (by have := HN.out; have := HLT.out; omega) (by rw [HZ.out.2.1]; decide) (by have := HR.out.2.size; have := HW2.out; rw [World.size_alloc]; omega) ?_)
      intro v' w3 hown' hgrow hv'
      rw [HZ.out.1] at hown'
      have HR3 := Lib.hid (show RdTo W rb q2 w3 from by
        have hlt := HGC.out.lt
        have hne : rb ≠ w2.heap.size := by have := HR2.out.1.lt; omega
        have k1 : (w2.alloc (.cells #[.int .i64 xp, .slice A0 xi.length c0, .int .i64 xk, .int .i64 xa, .int .i64 xt, .slice A1 xl.length c1, .int .i64 xe, .slice A2 xm.length c2] 74)).heap[rb]? = w2.heap[rb]? := Lib.alloc_old w2 _ rb HR2.out.1.lt
        have k2 : some rb ≠ (Value.slice A i c).ownBlock := fun e => by have := hlt rb e.symm; have := HRB.out; omega
        refine ⟨⟨(hgrow.block rb (by rw [World.size_alloc]; have := HR2.out.1.lt; omega) k2).trans (k1.trans HR2.out.1.1), HR2.out.1.2⟩, ?_⟩
        refine (HR.out.2.trans HR2.out.2).andThen ((World.grownBy_alloc w2 (.cells #[.int .i64 xp, .slice A0 xi.length c0, .int .i64 xk, .int .i64 xa, .int .i64 xt, .slice A1 xl.length c1, .int .i64 xe, .slice A2 xm.length c2] 74) (Value.slice A i c).ownBlock).trans hgrow) (fun j hj => .inl (hlt j hj).1))
      have HG3 := Lib.hid (show Gath 74 8 BkYs W.heap.size (xs0 ++ [⟨xp, xi, ⟨xk, xa, xt, xl, xe, xm⟩⟩]) v' w3 from
        Gath.snoc (fun h k => h.mono k) (fun h k k2 => BkYs.left h k k2) (fun h k k2 => BkYs.right h k k2) (by rw [HLL.out]; exact HO.out) HY.out HR.out.2.size (fun g hg => (HG.out.lt g hg).2) HX2.out rfl (by rw [HLL.out]; exact hown') hgrow (by rw [World.size_alloc]; exact hv'))
      clear hown' hgrow hv'
      go_wp2_with fail
      go_roundw
      case rel => exact ⟨i + 1, HLT.out, by go_num, by rw [HS.out]; exact HG3.out, by rw [HS.out]; exact HR3.out⟩
      case measure => have := HLT.out; simp [intOf]; omega
    · have he : i = n := by omega
      obtain ⟨A, c, hv⟩ := hG.form
      have HF := Lib.hid (hG.done (ROW := Blocks) (fun h _ k k2 => bk_row h k k2))
      subst he
      subst hv
      have hd : decide ((i : Int) < (i : Int)) = false := by simp
      clear hG hR hlt hi
      go_wp2_with fail
      go_ret
      exact ⟨_, _, rfl, HF.out, HR.out⟩
theorem info_Fn : (Try.prog.info? 60).any (fun i => i.size == 4 && i.bytes == 56 && (i.zero.elim false fun z => z.cells.size == 4)) = true := by kernel_rfl
/-- what a call that takes one gives back -/
def EpFn (x : Fn) (n : Nat) (w' : World) (val : Value) : Prop := ∃ A c, val = .agg #[.string x.s, .int .i64 x.b, .int .i64 x.p, .slice A x.l.length c] ∧ Fresh n w' (fun U => Blocks U (.slice A x.l.length c) x.l)
set_option maxRecDepth 100000 in
set_option maxHeartbeats 4000000 in
theorem takeFn_any (take : St → Fn × St) (g : FuncId) {rb : Nat} {r : St} (most : Nat) {W : World} (h : Rd W rb r) (hm : most ≤ 100) (hcf : ∀ args U, (callFunc g args).run Try.prog U = .ok (.enter g args) U)
    (hC : ∀ q U, Rd U rb q → Calls Try.prog g #[.pointer (some ⟨rb, 0, none⟩)] U fun e w' => ∃ val, e = .returned val ∧ EpFn (take q).1 U.heap.size w' val ∧ RdTo U rb (take q).2 w') :
    Calls Try.prog 40 #[.pointer (some ⟨rb, 0, none⟩), .int .u64 most, .func (.func g) #[.pointer (some ⟨rb, 0, none⟩)] #[]] W fun e w' => ∃ A c, e = .returned (.slice A (rowR most take r).1.length c) ∧ Fresh W.heap.size w' (fun U => Funcs U (.slice A (rowR most take r).1.length c) (rowR most take r).1) ∧ RdTo W rb (rowR most take r).2 w' := by
  have HK := Lib.hid (count_any most h)
  have HCF := Lib.hid hcf
  have HC := Lib.hid hC
  have HRB := Lib.hid h.lt
  have hle := bet_le (lo := 0) (hi := most) (e := 4) (by decide) r
  unfold rowR
  obtain ⟨⟨n, q⟩, hq⟩ : ∃ t, betweenR 0 most 4 r = t := ⟨_, rfl⟩
  rw [hq] at HK hle ⊢
  dsimp only at HK hle ⊢
  have n1 : (n : Int) ≤ 100 := by omega
  have HN := Lib.hid (show n ≤ 100 by omega)
  clear h hcf hC hm hle hq
  go_enter Try.func40, Try.ntmps40
  go_wp2_with fail
  refine HK.out.mono ?_
  rintro e w1 ⟨rfl, k1⟩
  have K1 := Lib.hid k1
  clear k1
  go_wp2_with fail
  go_loopw [7, 11] (fun lv iv wr => ∃ i : Nat, i ≤ n ∧ iv = .int .i64 i ∧ Gath 60 4 FnYs W.heap.size (timesR take i q).1 lv wr ∧ RdTo W rb (timesR take i q).2 wr) (fun _ iv _ => n - (intOf iv).toNat)
  case atStart => exact ⟨0, Nat.zero_le _, rfl, Gath.start, K1.out⟩
  case round =>
    obtain ⟨i, hi, rfl, hG, hR⟩ := hrel
    have HG := Lib.hid hG
    have HR := Lib.hid hR
    have hll := timesR_len take i q
    by_cases hlt : i < n
    · have HS := Lib.hid (timesR_snoc take i q)
      have HCI := Lib.hid (HC.out _ wr hR.1)
      obtain ⟨⟨xs0, q1⟩, hxq⟩ : ∃ t, timesR take i q = t := ⟨_, rfl⟩
      rw [hxq] at HG HR HS HCI hll
      dsimp only at HG HR HS HCI hll
      obtain ⟨⟨⟨xs, xb, xp, xl⟩, q2⟩, hx⟩ : ∃ t, take q1 = t := ⟨_, rfl⟩
      rw [hx] at HS HCI
      dsimp only at HS HCI
      obtain ⟨A, c, hv⟩ := HG.out.form
      rw [hll] at hv
      subst hv
      have hk0 : (0 : Int) ≤ (i : Int) := Int.natCast_nonneg _
      have hk1 : (i : Int) < (n : Int) := by omega
      have HLT := Lib.hid hlt
      have HLL := Lib.hid (show xs0.length = i from hll)
      clear hG hR hxq hx hlt hi hll
      go_wp2_with fail
      rw [HCF.out]
      refine Calls.mono HCI.out ?_
      rintro e w2 ⟨val, rfl, hE, hR2⟩
      unfold EpFn at hE
      dsimp only at hE
      obtain ⟨A0, c0, rfl, hF⟩ := hE
      have HR2 := Lib.hid hR2
      have HGB := Lib.hid (HG.out.move (fun h k => h.mono k) hR2.2 (fun r e => by cases e; exact HRB.out))
      have HX := Lib.hid (show FnYs (SameIn wr.heap.size w2.heap.size w2) [.string xs, .int .i64 xb, .int .i64 xp, .slice A0 xl.length c0] 0 ⟨xs, xb, xp, xl⟩ from ⟨rfl, rfl, rfl, _, _, rfl, fun U hU => hF U hU⟩)
      have HW2 := Lib.hid hR2.2.size
      clear hR2 hF
      obtain ⟨i0, z0, hi0, hz0, hz1, hz2, hz3⟩ := info_any info_Fn
      obtain ⟨ob, hob⟩ : ∃ o, Obj.cells #[.string xs, .int .i64 xb, .int .i64 xp, .slice A0 xl.length c0] 60 (0, 0) = o := ⟨_, rfl⟩
      have HGC := Lib.hid (HGB.out.move (fun h k => h.mono k) (World.grownBy_alloc w2 ob none) (fun r e => by cases e))
      have HX2 := Lib.hid (HX.out.mono (S' := SameIn wr.heap.size (w2.alloc ob).heap.size (w2.alloc ob)) (fun U hU => ⟨by have := hU.1; rw [World.size_alloc] at this; omega, fun b b1 b2 => (hU.2 b b1 (by rw [World.size_alloc]; omega)).trans (Lib.alloc_old w2 ob b b2)⟩))
      have HNW := Lib.hid (World.news_of_block (cs := #[.string xs, .int .i64 xb, .int .i64 xp, .slice A0 xl.length c0]) (show (w2.alloc ob).heap[w2.heap.size]? = some (.cells #[.string xs, .int .i64 xb, .int .i64 xp, .slice A0 xl.length c0] 60 (0, 0)) by rw [heap_alloc_new, hob]))
      subst hob
      obtain ⟨ys, ho, hy⟩ := HGC.out
      rw [HLL.out] at ho
      have HO := Lib.hid ho
      have HY := Lib.hid hy
      have HZ := Lib.hid (show i0.size = 4 ∧ i0.bytes = 56 ∧ z0.cells.size = 4 from ⟨hz1, hz2, hz3⟩)
      have HI := Lib.hid (show Try.prog.info? 60 = some i0 ∧ i0.zero = some z0 from ⟨hi0, hz0⟩)
      clear ho hy hz1 hz2 hz3 hi0 hz0
      go_wp2_with (at_builtin; refine wpList_append_new rfl _ _ 22 60 rfl W.heap.size i0 z0 Try.underlying22 HI.out.1 HI.out.2 (by rw [HZ.out.1]; exact HZ.out.2.2) (by rw [HZ.out.1]; decide) (.slice A i c) i ys rfl (by rw [HZ.out.1]; exact HO.out) ⟨w2.heap.size, 0, none⟩ 1 [.string xs, .int .i64 xb, .int .i64 xp, .slice A0 xl.length c0] rfl (by rw [HZ.out.1]; rfl) HNW.out (by simp [Value.oneCell']) (by have := HN.out; have := HLT.out; omega) (by rw [HZ.out.2.1]; decide) (by have := HR.out.2.size; have := HW2.out; rw [World.size_alloc]; omega) ?_)
      intro v' w3 hown' hgrow hv'
      rw [HZ.out.1] at hown'
      have HR3 := Lib.hid (show RdTo W rb q2 w3 from by
        have hlt := HGC.out.lt
        have hne : rb ≠ w2.heap.size := by have := HR2.out.1.lt; omega
        have k1 : (w2.alloc (.cells #[.string xs, .int .i64 xb, .int .i64 xp, .slice A0 xl.length c0] 60)).heap[rb]? = w2.heap[rb]? := Lib.alloc_old w2 _ rb HR2.out.1.lt
        have k2 : some rb ≠ (Value.slice A i c).ownBlock := fun e => by have := hlt rb e.symm; have := HRB.out; omega
        refine ⟨⟨(hgrow.block rb (by rw [World.size_alloc]; have := HR2.out.1.lt; omega) k2).trans (k1.trans HR2.out.1.1), HR2.out.1.2⟩, ?_⟩
        refine (HR.out.2.trans HR2.out.2).andThen ((World.grownBy_alloc w2 (.cells #[.string xs, .int .i64 xb, .int .i64 xp, .slice A0 xl.length c0] 60) (Value.slice A i c).ownBlock).trans hgrow) (fun j hj => .inl (hlt j hj).1))
      have HG3 := Lib.hid (show Gath 60 4 FnYs W.heap.size (xs0 ++ [⟨xs, xb, xp, xl⟩]) v' w3 from
        Gath.snoc (fun h k => h.mono k) (fun h k k2 => FnYs.left h k k2) (fun h k k2 => FnYs.right h k k2) (by rw [HLL.out]; exact HO.out) HY.out HR.out.2.size (fun g hg => (HG.out.lt g hg).2) HX2.out rfl (by rw [HLL.out]; exact hown') hgrow (by rw [World.size_alloc]; exact hv'))
      clear hown' hgrow hv'
      go_wp2_with fail
      go_roundw
      case rel => exact ⟨i + 1, HLT.out, by go_num, by rw [HS.out]; exact HG3.out, by rw [HS.out]; exact HR3.out⟩
      case measure => have := HLT.out; simp [intOf]; omega
    · have he : i = n := by omega
      obtain ⟨A, c, hv⟩ := hG.form
      have HF := Lib.hid (hG.done (ROW := Funcs) (fun h _ k k2 => fn_row h k k2))
      subst he
      subst hv
      have hd : decide ((i : Int) < (i : Int)) = false := by simp
      clear hG hR hlt hi
      go_wp2_with fail
      go_ret
      exact ⟨_, _, rfl, HF.out, HR.out⟩
theorem info_Gl : (Try.prog.info? 62).any (fun i => i.size == 4 && i.bytes == 40 && (i.zero.elim false fun z => z.cells.size == 4)) = true := by kernel_rfl
/-- what a call that takes one gives back -/
def EpGl (x : Gl) (_n : Nat) (_w' : World) (val : Value) : Prop := val = .agg #[.string x.s, .int .i64 x.b, .bool x.h, .int .u64 x.i]
set_option maxRecDepth 100000 in
set_option maxHeartbeats 4000000 in
theorem takeGl_any (take : St → Gl × St) (g : FuncId) {rb : Nat} {r : St} (most : Nat) {W : World} (h : Rd W rb r) (hm : most ≤ 100) (hcf : ∀ args U, (callFunc g args).run Try.prog U = .ok (.enter g args) U)
    (hC : ∀ q U, Rd U rb q → Calls Try.prog g #[.pointer (some ⟨rb, 0, none⟩)] U fun e w' => ∃ val, e = .returned val ∧ EpGl (take q).1 U.heap.size w' val ∧ RdTo U rb (take q).2 w') :
    Calls Try.prog 42 #[.pointer (some ⟨rb, 0, none⟩), .int .u64 most, .func (.func g) #[.pointer (some ⟨rb, 0, none⟩)] #[]] W fun e w' => ∃ A c, e = .returned (.slice A (rowR most take r).1.length c) ∧ Fresh W.heap.size w' (fun U => Globs U (.slice A (rowR most take r).1.length c) (rowR most take r).1) ∧ RdTo W rb (rowR most take r).2 w' := by
  have HK := Lib.hid (count_any most h)
  have HCF := Lib.hid hcf
  have HC := Lib.hid hC
  have HRB := Lib.hid h.lt
  have hle := bet_le (lo := 0) (hi := most) (e := 4) (by decide) r
  unfold rowR
  obtain ⟨⟨n, q⟩, hq⟩ : ∃ t, betweenR 0 most 4 r = t := ⟨_, rfl⟩
  rw [hq] at HK hle ⊢
  dsimp only at HK hle ⊢
  have n1 : (n : Int) ≤ 100 := by omega
  have HN := Lib.hid (show n ≤ 100 by omega)
  clear h hcf hC hm hle hq
  go_enter Try.func42, Try.ntmps42
  go_wp2_with fail
  refine HK.out.mono ?_
  rintro e w1 ⟨rfl, k1⟩
  have K1 := Lib.hid k1
  clear k1
  go_wp2_with fail
  go_loopw [7, 11] (fun lv iv wr => ∃ i : Nat, i ≤ n ∧ iv = .int .i64 i ∧ Gath 62 4 GlYs W.heap.size (timesR take i q).1 lv wr ∧ RdTo W rb (timesR take i q).2 wr) (fun _ iv _ => n - (intOf iv).toNat)
  case atStart => exact ⟨0, Nat.zero_le _, rfl, Gath.start, K1.out⟩
  case round =>
    obtain ⟨i, hi, rfl, hG, hR⟩ := hrel
    have HG := Lib.hid hG
    have HR := Lib.hid hR
    have hll := timesR_len take i q
    by_cases hlt : i < n
    · have HS := Lib.hid (timesR_snoc take i q)
      have HCI := Lib.hid (HC.out _ wr hR.1)
      obtain ⟨⟨xs0, q1⟩, hxq⟩ : ∃ t, timesR take i q = t := ⟨_, rfl⟩
      rw [hxq] at HG HR HS HCI hll
      dsimp only at HG HR HS HCI hll
      obtain ⟨⟨⟨xs, xb, xh, xi⟩, q2⟩, hx⟩ : ∃ t, take q1 = t := ⟨_, rfl⟩
      rw [hx] at HS HCI
      dsimp only at HS HCI
      obtain ⟨A, c, hv⟩ := HG.out.form
      rw [hll] at hv
      subst hv
      have hk0 : (0 : Int) ≤ (i : Int) := Int.natCast_nonneg _
      have hk1 : (i : Int) < (n : Int) := by omega
      have HLT := Lib.hid hlt
      have HLL := Lib.hid (show xs0.length = i from hll)
      clear hG hR hxq hx hlt hi hll
      go_wp2_with fail
      rw [HCF.out]
      refine Calls.mono HCI.out ?_
      rintro e w2 ⟨val, rfl, hE, hR2⟩
      unfold EpGl at hE
      dsimp only at hE
      obtain rfl := hE
      have HR2 := Lib.hid hR2
      have HGB := Lib.hid (HG.out.move (fun h k => h.mono k) hR2.2 (fun r e => by cases e; exact HRB.out))
      have HX := Lib.hid (show GlYs (SameIn wr.heap.size w2.heap.size w2) [.string xs, .int .i64 xb, .bool xh, .int .u64 xi] 0 ⟨xs, xb, xh, xi⟩ from ⟨rfl, rfl, rfl, rfl⟩)
      have HW2 := Lib.hid hR2.2.size
      clear hR2
      obtain ⟨i0, z0, hi0, hz0, hz1, hz2, hz3⟩ := info_any info_Gl
      obtain ⟨ob, hob⟩ : ∃ o, Obj.cells #[.string xs, .int .i64 xb, .bool xh, .int .u64 xi] 62 (0, 0) = o := ⟨_, rfl⟩
      have HGC := Lib.hid (HGB.out.move (fun h k => h.mono k) (World.grownBy_alloc w2 ob none) (fun r e => by cases e))
      have HX2 := Lib.hid (HX.out.mono (S' := SameIn wr.heap.size (w2.alloc ob).heap.size (w2.alloc ob)) (fun U hU => ⟨by have := hU.1; rw [World.size_alloc] at this; omega, fun b b1 b2 => (hU.2 b b1 (by rw [World.size_alloc]; omega)).trans (Lib.alloc_old w2 ob b b2)⟩))
      have HNW := Lib.hid (World.news_of_block (cs := #[.string xs, .int .i64 xb, .bool xh, .int .u64 xi]) (show (w2.alloc ob).heap[w2.heap.size]? = some (.cells #[.string xs, .int .i64 xb, .bool xh, .int .u64 xi] 62 (0, 0)) by rw [heap_alloc_new, hob]))
      subst hob
      obtain ⟨ys, ho, hy⟩ := HGC.out
      rw [HLL.out] at ho
      have HO := Lib.hid ho
      have HY := Lib.hid hy
      have HZ := Lib.hid (show i0.size = 4 ∧ i0.bytes = 40 ∧ z0.cells.size = 4 from ⟨hz1, hz2, hz3⟩)
      have HI := Lib.hid (show Try.prog.info? 62 = some i0 ∧ i0.zero = some z0 from ⟨hi0, hz0⟩)
      clear ho hy hz1 hz2 hz3 hi0 hz0
      go_wp2_with (at_builtin; refine wpList_append_new rfl _ _ 23 62 rfl W.heap.size i0 z0 Try.underlying23 HI.out.1 HI.out.2 (by rw [HZ.out.1]; exact HZ.out.2.2) (by rw [HZ.out.1]; decide) (.slice A i c) i ys rfl (by rw [HZ.out.1]; exact HO.out) ⟨w2.heap.size, 0, none⟩ 1 [.string xs, .int .i64 xb, .bool xh, .int .u64 xi] rfl (by rw [HZ.out.1]; rfl) HNW.out (by simp [Value.oneCell']) (by have := HN.out; have := HLT.out; omega) (by rw [HZ.out.2.1]; decide) (by have := HR.out.2.size; have := HW2.out; rw [World.size_alloc]; omega) ?_)
      intro v' w3 hown' hgrow hv'
      rw [HZ.out.1] at hown'
      have HR3 := Lib.hid (show RdTo W rb q2 w3 from by
        have hlt := HGC.out.lt
        have hne : rb ≠ w2.heap.size := by have := HR2.out.1.lt; omega
        have k1 : (w2.alloc (.cells #[.string xs, .int .i64 xb, .bool xh, .int .u64 xi] 62)).heap[rb]? = w2.heap[rb]? := Lib.alloc_old w2 _ rb HR2.out.1.lt
        have k2 : some rb ≠ (Value.slice A i c).ownBlock := fun e => by have := hlt rb e.symm; have := HRB.out; omega
        refine ⟨⟨(hgrow.block rb (by rw [World.size_alloc]; have := HR2.out.1.lt; omega) k2).trans (k1.trans HR2.out.1.1), HR2.out.1.2⟩, ?_⟩
        refine (HR.out.2.trans HR2.out.2).andThen ((World.grownBy_alloc w2 (.cells #[.string xs, .int .i64 xb, .bool xh, .int .u64 xi] 62) (Value.slice A i c).ownBlock).trans hgrow) (fun j hj => .inl (hlt j hj).1))
      have HG3 := Lib.hid (show Gath 62 4 GlYs W.heap.size (xs0 ++ [⟨xs, xb, xh, xi⟩]) v' w3 from
        Gath.snoc (fun h k => h.mono k) (fun h k k2 => GlYs.left h k k2) (fun h k k2 => GlYs.right h k k2) (by rw [HLL.out]; exact HO.out) HY.out HR.out.2.size (fun g hg => (HG.out.lt g hg).2) HX2.out rfl (by rw [HLL.out]; exact hown') hgrow (by rw [World.size_alloc]; exact hv'))
      clear hown' hgrow hv'
      go_wp2_with fail
      go_roundw
      case rel => exact ⟨i + 1, HLT.out, by go_num, by rw [HS.out]; exact HG3.out, by rw [HS.out]; exact HR3.out⟩
      case measure => have := HLT.out; simp [intOf]; omega
    · have he : i = n := by omega
      obtain ⟨A, c, hv⟩ := hG.form
      have HF := Lib.hid (hG.done (ROW := Globs) (fun h _ k k2 => gl_row h k k2))
      subst he
      subst hv
      have hd : decide ((i : Int) < (i : Int)) = false := by simp
      clear hG hR hlt hi
      go_wp2_with fail
      go_ret
      exact ⟨_, _, rfl, HF.out, HR.out⟩
end Q
end Go.Proofs.Ytjldddpchiaalaa
