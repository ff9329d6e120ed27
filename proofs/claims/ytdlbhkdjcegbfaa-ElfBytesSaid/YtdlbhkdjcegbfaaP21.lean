/- blank: new pages of noughts. -/
import Derived.Test.YtdlbhkdjcegbfaaPA
import Derived.Test.YtdlbhkdjcegbfaaP7
import Derived.Test.YtdlbhkdjcegbfaaP12
import Derived.Test.YtdlbhkdjcegbfaaP16
import Derived.Test.YtdlbhkdjcegbfaaShR
namespace Go.Proofs.Ytdlbhkdjcegbfaa
open Go.RowKit Go.Shelf

attribute [local go_sem] Oper.semAt_some

theorem repeat_noughts : Lib.repeatL [(0 : UInt8)] 256 = List.replicate 256 0 := by decide +kernel
theorem three_new (W : World) (a p : Int) (d : ByteArray) (t : TypeId) : ∀ (j : Nat) (u : Value), [Value.int .u64 a, .int .i64 p, .string d][j]? = some u → (W.alloc (.cells #[.int .u64 a, .int .i64 p, .string d] t)).cell? ((⟨W.heap.size, 0, none⟩ : Addr).add j) = some u := by
  intro j u hu
  obtain ⟨h0, h1, h2⟩ := page_new W a p d t
  rw [pg_add, Nat.zero_add]
  match j, hu with
  | 0, hu => cases hu; exact h0
  | 1, hu => cases hu; exact h1
  | 2, hu => cases hu; exact h2
  | j + 3, hu => simp at hu

set_option maxRecDepth 100000 in
set_option maxHeartbeats 4000000 in
theorem blank_in (a : Int) (kn : Nat) (perm : Int) (w : World) (a0 : 0 ≤ a) (a1 : a ≤ 18446744073709551615) (k0 : 1 ≤ kn) (k1 : kn ≤ 64) (hk : a + (kn : Int) * 256 ≤ 18446744073709551616) :
    Calls Try.prog 111 #[.int .u64 a, .int .i64 kn, .int .i64 perm] w (NewPages ((M.strs a ((kn : Int) * 256)).map (mkPg perm noughts)) w) := by
  obtain ⟨i0, hi, hz0, hz1, hz2⟩ := info_parts pg_info
  have HRP := Lib.hid (fun W => repeat_any ⟨#[0]⟩ 256 W (by omega) (by decide))
  have HZ := Lib.hid (show (⟨(Lib.repeatL ((⟨#[0]⟩ : ByteArray)).data.toList 256).toArray⟩ : ByteArray) = noughts by
    have h : ((⟨#[0]⟩ : ByteArray)).data.toList = [(0 : UInt8)] := rfl
    rw [h, repeat_noughts]; rfl)
  rw [HZ.out] at HRP
  obtain ⟨Z, hZ⟩ : ∃ Z, noughts = Z := ⟨_, rfl⟩
  rw [hZ] at HRP ⊢
  clear hZ HZ
  refine (callsIn_wide (n := 3)).1 ?_
  refine callsIn_of_wp_marks Try.func111 rfl trivial ?_ rfl
  simp only [Try.ntmps111, List.size_toArray, List.length_cons, List.length_nil, Nat.reduceAdd, Nat.reduceSub, Array.replicate_succ, Array.replicate_zero, List.push_toArray, List.append_toArray, List.nil_append, List.cons_append]
  gi_wp2_with (fail)
  refine ⟨trivial, ?_⟩
  refine (callsIn_wide.2 (HRP.out _)).mono ?_
  rintro e w1 ⟨rfl, hb1⟩
  have bP := boxed_below (Boxed.new w 3 (.int .i64 perm)) hb1
  have B1 := Lib.hid (bthen (balloc (Below.refl _ w) (.cells #[.int .i64 perm] 3)) hb1)
  have HP1 := Lib.hid bP
  clear hb1 bP
  gi_wp2_with (gi_at_make; refine wpListIn_make_own _ rfl _ _ 28 rfl w.heap.size 39 i0 (.agg #[.int .u64 0, .int .i64 0, .string ⟨#[]⟩]) 3 Try.underlying28 hi hz0 hz1 .i64 .i64 _ kn rfl rfl rfl (by rw [hz2]; omega) (by unfold maxLen; omega) (by have := B1.out.size; simp; omega) ?_; intro w2 hown2 hgrow2)
  have hg2 : Below w.heap.size w w2 := (balloc B1.out (.cells #[.string Z] 9)).grown hgrow2 (by have := B1.out.size; simp; omega) (fun k e => by cases e)
  have bP := ((((HP1.out.alloc (.cells #[.string Z] 9)).kept hgrow2 (by simp)).alloc (.cells #[.slice (some ⟨w1.heap.size + 1, 0, none⟩) 0 kn] 28)).alloc (.cells #[.int .u64 a] 22)).alloc (.cells #[.int .i64 ((kn : Int) * 256)] 3)
  have bN := ((((Boxed.new w1 9 (.string Z)).kept hgrow2 (by simp)).alloc (.cells #[.slice (some ⟨w1.heap.size + 1, 0, none⟩) 0 kn] 28)).alloc (.cells #[.int .u64 a] 22)).alloc (.cells #[.int .i64 ((kn : Int) * 256)] 3)
  have bO := ((Boxed.new w2 28 (.slice (some ⟨w1.heap.size + 1, 0, none⟩) 0 kn)).alloc (.cells #[.int .u64 a] 22)).alloc (.cells #[.int .i64 ((kn : Int) * 256)] 3)
  have bA := (Boxed.new (w2.alloc (.cells #[.slice (some ⟨w1.heap.size + 1, 0, none⟩) 0 kn] 28)) 22 (.int .u64 a)).alloc (.cells #[.int .i64 ((kn : Int) * 256)] 3)
  have bK := Boxed.new ((w2.alloc (.cells #[.slice (some ⟨w1.heap.size + 1, 0, none⟩) 0 kn] 28)).alloc (.cells #[.int .u64 a] 22)) 3 (.int .i64 ((kn : Int) * 256))
  have h2 : OwnsP w2 w.heap.size (.slice (some ⟨w1.heap.size + 1, 0, none⟩) 0 kn) [] := by
    have h := hown2
    rw [World.size_alloc] at h
    exact h
  have own : OwnsP (((w2.alloc (.cells #[.slice (some ⟨w1.heap.size + 1, 0, none⟩) 0 kn] 28)).alloc (.cells #[.int .u64 a] 22)).alloc (.cells #[.int .i64 ((kn : Int) * 256)] 3)) w.heap.size (.slice (some ⟨w1.heap.size + 1, 0, none⟩) 0 kn) [] := ownsP_kept (ownsP_kept (ownsP_kept h2 (World.grownBy_alloc _ _ none) (by simp [Value.ownBlock])) (World.grownBy_alloc _ _ none) (by simp [Value.ownBlock])) (World.grownBy_alloc _ _ none) (by simp [Value.ownBlock])
  have hB0 := balloc (balloc (balloc hg2 (.cells #[.slice (some ⟨w1.heap.size + 1, 0, none⟩) 0 kn] 28)) (.cells #[.int .u64 a] 22)) (.cells #[.int .i64 ((kn : Int) * 256)] 3)
  have hs1 : w.heap.size < w1.heap.size := HP1.out.lt
  have hs2 : w1.heap.size + 1 ≤ w2.heap.size := by have := hgrow2.size; simp at this; omega
  have hsz : (((w2.alloc (.cells #[.slice (some ⟨w1.heap.size + 1, 0, none⟩) 0 kn] 28)).alloc (.cells #[.int .u64 a] 22)).alloc (.cells #[.int .i64 ((kn : Int) * 256)] 3)).heap.size = w2.heap.size + 3 := by simp
  clear hown2 hgrow2 h2 hg2
  refine ⟨trivial, ?_⟩
  refine (stretches_in 2 _ _ _).mono ?_
  rintro e w3 ⟨rfl, rfl⟩
  gi_wp2_with (fail)
  simp only [World.size_alloc] at bA bK
  generalize (((w2.alloc (.cells #[.slice (some ⟨w1.heap.size + 1, 0, none⟩) 0 kn] 28)).alloc (.cells #[.int .u64 a] 22)).alloc (.cells #[.int .i64 ((kn : Int) * 256)] 3)) = W0 at *
  refine wpIn_rangeFunc_ownH (α := {s : M.Str // True}) rfl (by omega) (gf := 153) (lb := #[.pointer (some ⟨w2.heap.size + 1, 0, none⟩), .pointer (some ⟨w2.heap.size + 1 + 1, 0, none⟩)]) rfl trivial (enters_of Try.func153 (by kernel_rfl) rfl)
    (strs_stops 2 (by omega) (w2.heap.size + 1) (w2.heap.size + 1 + 1) a ((kn : Int) * 256) (fun _ => True) (fun _ _ => trivial) a0 a1 (by omega) hk W0 (by omega) (by omega) bA.cell bK.cell) KeepS.trans keepS_b (Below.refl _ _) (fun _ => rfl)
    (fun pre W => (Boxed W w.heap.size 3 (.int .i64 perm) ∧ Boxed W w1.heap.size 9 (.string Z)) ∧ (∃ g cp, Boxed W w2.heap.size 28 (.slice (some ⟨g, 0, none⟩) pre.length cp) ∧ OwnsP W w.heap.size (.slice (some ⟨g, 0, none⟩) pre.length cp) (pre.map (fun x => mkPg perm Z x.1))) ∧ Below w.heap.size w W)
    (fun _ _ _ => False)
    (OwnFrom.and (OwnFrom.and (Own.from (boxed_own _ _ _) _) (Own.from (boxed_own _ _ _) _)) (OwnFrom.and ?ownex (ownFrom_below (Nat.le_refl _) (by omega))))
    (fun _ _ _ _ _ hs _ _ => hs)
    ⟨⟨bP, bN⟩, ⟨w1.heap.size + 1, kn, bO, own⟩, hB0⟩
    (fun x a' W => ∃ Bx, BoxedS W Bx x.1 ∧ a' = { tmps := #[.int .u64 a, .int .i64 kn, .int .i64 perm, undef, undef, .pointer (some ⟨w.heap.size, 0, none⟩), .slice none 0 0, .pointer (some ⟨w1.heap.size, 0, none⟩), .pointer (some ⟨w2.heap.size, 0, none⟩), .pointer (some ⟨Bx, 0, none⟩), .string Z, .int .i64 kn, .slice (some ⟨w1.heap.size + 1, 0, none⟩) 0 kn, .int .u64 a, .int .i64 kn, .int .i64 ((kn : Int) * 256), .func (.func 153) #[] #[.pointer (some ⟨w2.heap.size + 1, 0, none⟩), .pointer (some ⟨w2.heap.size + 1 + 1, 0, none⟩)], encS x.1, undef, undef, undef, undef, undef, undef, undef, undef, undef], defers := [] })
    (fun x a' s X Y row hs hg hr => by obtain ⟨Bx, h1, h2⟩ := hs; exact ⟨Bx, boxedS_own Bx x.1 () X Y row h1 hg hr, h2⟩)
    ?assign ?body ?done ?stop
  case ownex =>
    rintro pre X Y row ⟨g, cp, h1, h2⟩ hg hr
    exact ⟨g, cp, boxed_own w2.heap.size _ (fun _ : Unit => .slice (some ⟨g, 0, none⟩) pre.length cp) () X Y row h1 hg (fun r e => (hr r e).2), ownsP_own (fun _ : Unit => pre.map (fun x => mkPg perm Z x.1)) () X Y row h2 hg hr⟩
  case assign =>
    rintro l pre x W K ⟨⟨b1, b2⟩, ⟨g, cp, b3, ow⟩, hb⟩ hK
    have HK := Lib.hid hK
    clear hK
    obtain ⟨⟨pg, f, n⟩, hx⟩ := x
    simp only [encS]
    gi_wp2
    exact HK.out _ _ ((KeepsOthers.alloc _ _).from _) (KeepS.below (balloc (Below.refl _ _) _)) ⟨⟨b1.alloc _, b2.alloc _⟩, ⟨g, cp, b3.alloc _, ownsP_kept ow (World.grownBy_alloc _ _ none) (by simp [Value.ownBlock])⟩, balloc hb _⟩ ⟨W.heap.size, BoxedS.new W ⟨pg, f, n⟩, rfl⟩
  case body =>
    rintro lo pre x a' W hl0 hr' ⟨⟨b1, b2⟩, ⟨g, cp, b3, ow⟩, hb⟩ ⟨Bx, bx, rfl⟩ hlen
    have HI := Lib.hid (show (Boxed W w.heap.size 3 (.int .i64 perm) ∧ Boxed W w1.heap.size 9 (.string Z)) ∧ Below w.heap.size w W from ⟨⟨b1, b2⟩, hb⟩)
    have HO3 := Lib.hid b3
    have HOW := Lib.hid ow
    have HX := Lib.hid bx
    have c1 := b1.cell
    have c2 := b2.cell
    have c3 := b3.cell
    obtain ⟨c4, -, -⟩ := bx.cells
    have hlen' : pre.length < 16384 := Nat.lt_of_lt_of_le hlen (Nat.le_trans M.strs_len (by omega))
    have HEN := Lib.hid (show encS x.1 = .agg #[.int .u64 x.1.pg, .int .i64 x.1.f, .int .i64 x.1.n] from rfl)
    rw [HEN.out]
    obtain ⟨pg, hpg⟩ : ∃ pg, x.1.pg = pg := ⟨_, rfl⟩
    rw [hpg] at c4 ⊢
    have HXP := Lib.hid hpg
    have hrow : W.ownsRow w.heap.size 39 3 (.slice (some ⟨g, 0, none⟩) pre.length cp) pre.length (cellsOf (pre.map (fun x => mkPg perm Z x.1))) := by
      have h : W.ownsRow w.heap.size 39 3 (.slice (some ⟨g, 0, none⟩) pre.length cp) (pre.map (fun x => mkPg perm Z x.1)).length (cellsOf (pre.map (fun x => mkPg perm Z x.1))) := ow
      rw [List.length_map] at h
      exact h
    have hzs := hb.size
    have HRO := Lib.hid hrow
    have f3 := b3.frozen
    have f3' : (W.alloc (.cells #[.int .u64 pg, .int .i64 perm, .string Z] 39)).frozen? ⟨w2.heap.size, 0, none⟩ = false := (b3.alloc _).frozen
    clear b1 b2 b3 bx hb hr' hlen hpg ow hrow
    gi_wp2_with (gi_at_builtin; refine wpListIn_append_own _ rfl _ _ 28 rfl w.heap.size 39 i0 (.agg #[.int .u64 0, .int .i64 0, .string ⟨#[]⟩]) 3 32 Try.underlying28 hi hz0 hz1 hz2 rfl (by decide) _ _ _ rfl (HRO.out.alloc _) ⟨W.heap.size, 0, none⟩ 1 1 [.int .u64 pg, .int .i64 perm, .string Z] rfl rfl (three_new _ _ _ _ _) (fun x hx => by simp at hx; rcases hx with rfl | rfl | rfl <;> rfl) (by unfold maxLen; omega) (by omega) (by simp; omega) ?_; intro v' w5 hown' hgrow _; obtain ⟨g', cp', rfl⟩ := ownsRow_succ hown'; obtain ⟨hv1, hv2, hr2, hk2, hb2⟩ := HO3.out.appended (by decide) HRO.out hzs (by omega) hown' hgrow; have hc1 := hv1.cell; have hf1 := hv1.frozen; have hx1 := HI.out)
    obtain ⟨⟨p1, p2⟩, p3⟩ := hx1
    have d1 : w.heap.size ≠ w2.heap.size := by omega
    have d2 : w1.heap.size ≠ w2.heap.size := by omega
    have u1 := ((p1.alloc (.cells #[.int .u64 pg, .int .i64 perm, .string Z] 39)).kept hgrow (p1.not_row (by decide) HRO.out)).other d1 (.slice (some ⟨g', 0, none⟩) (pre.length + 1) cp')
    have u2 := ((p2.alloc (.cells #[.int .u64 pg, .int .i64 perm, .string Z] 39)).kept hgrow (p2.not_row (by decide) HRO.out)).other d2 (.slice (some ⟨g', 0, none⟩) (pre.length + 1) cp')
    have hkA : KeepS W (W.alloc (.cells #[.int .u64 pg, .int .i64 perm, .string Z] 39)) := KeepS.below (balloc (Below.refl _ _) _)
    have hkB := KeepS.grown hgrow (fun r e cs f hh => by
      have e' : g = r := by simpa [Value.ownBlock] using (show (Value.slice (some ⟨g, 0, none⟩) pre.length cp).ownBlock = some r from e)
      rcases (HRO.out.alloc (.cells #[.int .u64 pg, .int .i64 perm, .string Z] 39)).2 with ⟨e0, _⟩ | ⟨g1, cap1, cur, e1, _, hg, _⟩
      · cases e0
      · cases e1
        rw [← e', hg] at hh
        cases hh)
    have hkC := KeepS.grown (grownBy_setCell' w5 w2.heap.size (.slice (some ⟨g', 0, none⟩) (pre.length + 1) cp')) (fun r e cs f hh => by
      cases e
      rw [show w5.heap[w2.heap.size]? = _ from hv1] at hh
      cases hh)
    refine ⟨hk2.from _, hkA.trans (hkB.trans hkC), ⟨u1, u2⟩, ⟨g', cp', ?_, ?_⟩, p3.trans hb2⟩
    · rw [List.length_append]; exact hv2
    · rw [List.length_append, List.map_append, List.map_cons, List.map_nil]
      show World.ownsRow _ _ _ _ _ _ _
      rw [List.length_append, cellsOf_append]
      show World.ownsRow _ _ _ _ _ _ (_ ++ ([.int .u64 x.1.pg, .int .i64 perm, .string Z] ++ []))
      rw [HXP.out, List.append_nil, List.length_map]
      exact hr2
  case done =>
    rintro D ys W hD hys ⟨⟨b1, b2⟩, ⟨g, cp, b3, ow⟩, hb⟩ hK
    have c3 := b3.cell
    have HK := Lib.hid hK
    have HB := Lib.hid hb
    have hls : ys.length = (M.strs a ((kn : Int) * 256)).length := by rw [← hys]; simp
    have hmp : ys.map (fun x => mkPg perm Z x.1) = (M.strs a ((kn : Int) * 256)).map (mkPg perm Z) := by rw [← hys, List.map_map]; rfl
    rw [hmp] at ow
    have HM := Lib.hid ow
    have HDO := Lib.hid (show (Value.slice (some ⟨g, 0, none⟩) ys.length cp).ownBlock = none ∨ (Value.slice (some ⟨g, 0, none⟩) ys.length cp).ownBlock ≠ some D from by
      rcases (show W.ownsRow w.heap.size 39 3 _ _ _ from ow).2 with ⟨e, _⟩ | ⟨g', cap', cur, e, _, hg, _⟩
      · rw [e]; exact .inl rfl
      · rw [e]
        refine .inr (fun e' => ?_)
        have e2 : g' = D := by simpa [Value.ownBlock] using e'
        rw [e2, hK] at hg
        cases hg)
    clear b1 b2 b3 hb hK ow hls hmp hys
    gi_wp2_with (fail)
    refine ⟨by simp, .inl ⟨_, _, rfl, run_takeDeferred HK.out, ?_⟩⟩
    refine ⟨_, results_tmp rfl _ _ _, ⟨_, rfl, ?_, HB.out.trans (belowK_b (w := w) (Nat.le_refl _) W D _ _ (by omega) HK.out rfl rfl)⟩⟩
    exact ownsP_kept HM.out (grownBy_putObj' W D (.deferred none)) HDO.out
  case stop =>
    rintro D c pre W _ _ h _
    exact h.elim
end Go.Proofs.Ytdlbhkdjcegbfaa
