/- Package pick: Defines and Wants; files. -/
import Derived.Test.YtcfniagmnkngfaaQ1
import Derived.Test.YtcfniagmnkngfaaBK
namespace Go.Proofs.Ytcfniagmnkngfaa
open Go.RowKit

def selM (p : Bool → Int → Bool) (m : Md) : List ByteArray := selF p m.f ++ selG p m.g
set_option maxRecDepth 100000 in
set_option maxHeartbeats 8000000 in
theorem toldD_any (m : Md) (F G : Option Addr) (nf cf ng cg : Nat) (w : World) (hnf : m.f.length = nf) (hng : m.g.length = ng) (h16 : (nf + ng) * 16 ≤ 140737488355000) (hS : MdAt w (.slice F nf cf) (.slice G ng cg) m) :
    Calls Try.prog 60 #[.agg #[.slice F nf cf, .slice G ng cg], .func (.func 61) #[] #[]] w (NewNames (selM defP m) w) := by
  have HNF := Lib.hid (fun (B : Nat) (W : World) (hb : Below w.heap.size w W) (hB : W.cell? ⟨B, 0, none⟩ = some (.func (.func 61) #[] #[])) => namesFD_any m.f F nf cf B W hnf (by omega) hB (hS.1.next hb))
  have HNG := Lib.hid (fun (B : Nat) (W : World) (hb : Below w.heap.size w W) (hB : W.cell? ⟨B, 0, none⟩ = some (.func (.func 61) #[] #[])) => namesGD_any m.g G ng cg B W hng (by omega) hB (hS.2.next hb))
  have HL1 := Lib.hid (show (selF defP m.f).length ≤ nf by rw [← hnf]; exact selF_len _ _)
  have HL2 := Lib.hid (show (selG defP m.g).length ≤ ng by rw [← hng]; exact selG_len _ _)
  have H16 := Lib.hid h16
  have HSM := Lib.hid (show selM defP m = selF defP m.f ++ selG defP m.g from rfl)
  obtain ⟨i0, qi, qz0, qz1, qz2⟩ := str_inf
  have HII := Lib.hid (And.intro qi (And.intro qz0 (And.intro qz1 qz2)))
  clear hnf hng h16 hS qi qz0 qz1 qz2
  generalize selF defP m.f = L1 at HNF HL1 HSM
  generalize selG defP m.g = L2 at HNG HL2 HSM
  rw [HSM.out]
  clear HSM
  go_enter Try.func60, Try.ntmps60
  go_upto_region 1 with fail
  have HX := Lib.hid (show ((w.alloc (.cells #[.slice F nf cf, .slice G ng cg] 25)).alloc (.cells #[.func (.func 61) #[] #[]] 113)).heap[w.heap.size]? = some (.cells #[.slice F nf cf, .slice G ng cg] 25 (0, 0)) from ((balloc (Below.refl _ _) _).block w.heap.size (Array.getElem?_eq_some_iff.1 (heap_alloc_new w _)).1).trans (heap_alloc_new w _))
  have HY := Lib.hid (show ((w.alloc (.cells #[.slice F nf cf, .slice G ng cg] 25)).alloc (.cells #[.func (.func 61) #[] #[]] 113)).heap[w.heap.size + 1]? = some (.cells #[.func (.func 61) #[] #[]] 113 (0, 0)) from by
    have e := heap_alloc_new (w.alloc (.cells #[.slice F nf cf, .slice G ng cg] 25)) (.cells #[.func (.func 61) #[] #[]] 113)
    rwa [World.size_alloc] at e)
  have HB := Lib.hid (balloc (balloc (Below.refl _ w) (.cells #[.slice F nf cf, .slice G ng cg] 25)) (.cells #[.func (.func 61) #[] #[]] 113))
  generalize (w.alloc (.cells #[.slice F nf cf, .slice G ng cg] 25)).alloc (.cells #[.func (.func 61) #[] #[]] 113) = W0 at *
  have c0 := Lib.cell_of_heap HX.out 0
  have c1 := Lib.cell_of_heap HX.out 1
  simp only [List.getElem?_toArray, List.getElem?_cons_zero, List.getElem?_cons_succ] at c0 c1
  go_wp2_with fail
  refine (HNF.out _ W0 HB.out (Lib.cell_of_heap HY.out 0)).mono ?_
  rintro r w1 ⟨v5, rfl, ho5, hb1⟩
  have HX1 := Lib.hid ((hb1.block _ (Array.getElem?_eq_some_iff.1 HX.out).1).trans HX.out)
  have HY1 := Lib.hid ((hb1.block _ (Array.getElem?_eq_some_iff.1 HY.out).1).trans HY.out)
  have HB1 := Lib.hid (bthen HB.out hb1)
  have HO5 := Lib.hid ho5
  have HZ1 := Lib.hid hb1.size
  clear c0 c1 hb1 ho5
  have c0 := Lib.cell_of_heap HX1.out 0
  have c1 := Lib.cell_of_heap HX1.out 1
  simp only [List.getElem?_toArray, List.getElem?_cons_zero, List.getElem?_cons_succ] at c0 c1
  go_wp2_with fail
  refine (HNG.out _ w1 HB1.out (Lib.cell_of_heap HY1.out 0)).mono ?_
  rintro r w2 ⟨v6, rfl, ho6, hb2⟩
  have HB2 := Lib.hid (bthen HB1.out hb2)
  have HO52 := Lib.hid (ownsN_below HO5.out hb2)
  have HO6 := Lib.hid ho6
  have HZ2 := Lib.hid (Nat.le_trans HZ1.out hb2.size)
  obtain ⟨A5, z5, hv5⟩ := HO52.out.form
  obtain ⟨n5, hn5⟩ : ∃ n, L1.length = n := ⟨_, rfl⟩
  obtain ⟨n6, hn6⟩ : ∃ n, L2.length = n := ⟨_, rfl⟩
  rw [hn5] at hv5
  subst hv5
  have HN5 := Lib.hid hn5
  have HN6 := Lib.hid hn6
  have HOWN := Lib.hid (show w2.ownsRow W0.heap.size 9 1 (.slice A5 n5 z5) n5 (strRow L1) by have := HO52.out; unfold OwnsN at this; rwa [hn5] at this)
  have hM : (n5 + n6) * 16 ≤ 140737488355328 := by have := H16.out; have := HL1.out; have := HL2.out; omega
  have HM16 := Lib.hid hM
  have HM63 := Lib.hid (show n5 + n6 ≤ maxLen by unfold maxLen; omega)
  have h6 := ho6
  unfold OwnsN at h6
  rw [hn6] at h6
  have HO6R := Lib.hid h6
  clear hb2 ho6 hn5 hn6 c0 c1 hM
  rcases h6.2 with ⟨e6, hs6⟩ | ⟨g, cap, cur, e6, hr⟩
  · subst e6
    have HL0 := Lib.hid (show L2 = [] from List.length_eq_zero_iff.1 (HN6.out.trans hs6))
    clear h6 hs6
    go_wp2_with (at_builtin; go_loud (refine wpList_append_own_none rfl _ _ 49 rfl W0.heap.size 9 i0 1 Try.underlying49 HII.out.1 (.slice A5 n5 z5) n5 (strRow L1) rfl HOWN.out rfl ?_))
    go_ret
    exact ⟨_, rfl, by rw [HL0.out, List.append_nil]; exact HO52.out.strs, HB2.out⟩
  · subst e6
    have HCL := Lib.hid (h6.cells (g := g) rfl)
    have HLN := Lib.hid (show (strRow L2).length = n6 * 1 by rw [strRow_length, HN6.out, Nat.mul_one])
    have HON := Lib.hid (strRow_one L2)
    clear h6 hr
    go_wp2_with (at_builtin; go_loud (refine wpList_append_own_at _ rfl _ _ 49 rfl W0.heap.size 9 i0 (.string ⟨#[]⟩) 1 16 Try.underlying49 HII.out.1 HII.out.2.1 HII.out.2.2.1 HII.out.2.2.2 rfl (by omega) (.slice A5 n5 z5) n5 (strRow L1) rfl HOWN.out ⟨g, 0, none⟩ n6 cap (strRow L2) rfl HLN.out HCL.out HON.out HM63.out HM16.out HZ2.out ?_; intro v' w4 hown hgrow hnil hat))
    have HG := Lib.hid hgrow
    have HOW := Lib.hid hown
    clear hgrow hown hnil hat
    go_wp2_with fail
    go_ret
    refine ⟨_, rfl, ?_, ?_⟩
    · refine OwnsN.strs (base := W0.heap.size) ?_
      unfold OwnsN
      rw [List.length_append, HN5.out, HN6.out]
      have := HOW.out
      unfold strRow at this ⊢
      rwa [List.map_append]
    · exact HB2.out.trans (below_grown HG.out HB2.out.size (fun r e => Nat.le_trans HB.out.size (HO52.out.block _ e).1))
set_option maxRecDepth 100000 in
theorem defines_any (m : Md) (F G : Option Addr) (nf cf ng cg : Nat) (w : World) (hnf : m.f.length = nf) (hng : m.g.length = ng) (h16 : (nf + ng) * 16 ≤ 140737488355000) (hS : MdAt w (.slice F nf cf) (.slice G ng cg) m) :
    Calls Try.prog 28 #[.agg #[.slice F nf cf, .slice G ng cg]] w (NewNames (selM defP m) w) := by
  have HT := Lib.hid (fun (W : World) (hb : Below w.heap.size w W) => toldD_any m F G nf cf ng cg W hnf hng h16 (hS.next hb))
  have HB := Lib.hid (balloc (Below.refl _ w) (.cells #[.slice F nf cf, .slice G ng cg] 25))
  clear hnf hng h16 hS
  go_enter Try.func28, Try.ntmps28
  go_wp2_with fail
  refine (HT.out _ HB.out).mono ?_
  rintro r w1 ⟨v, rfl, hs, hb⟩
  have HB1 := Lib.hid (bthen HB.out hb)
  have HST := Lib.hid hs
  clear hb hs
  go_wp2_with fail
  go_ret
  exact ⟨_, rfl, HST.out, HB1.out⟩
set_option maxRecDepth 100000 in
set_option maxHeartbeats 8000000 in
theorem toldW_any (m : Md) (F G : Option Addr) (nf cf ng cg : Nat) (w : World) (hnf : m.f.length = nf) (hng : m.g.length = ng) (h16 : (nf + ng) * 16 ≤ 140737488355000) (hS : MdAt w (.slice F nf cf) (.slice G ng cg) m) :
    Calls Try.prog 60 #[.agg #[.slice F nf cf, .slice G ng cg], .func (.func 62) #[] #[]] w (NewNames (selM wantP m) w) := by
  have HNF := Lib.hid (fun (B : Nat) (W : World) (hb : Below w.heap.size w W) (hB : W.cell? ⟨B, 0, none⟩ = some (.func (.func 62) #[] #[])) => namesFW_any m.f F nf cf B W hnf (by omega) hB (hS.1.next hb))
  have HNG := Lib.hid (fun (B : Nat) (W : World) (hb : Below w.heap.size w W) (hB : W.cell? ⟨B, 0, none⟩ = some (.func (.func 62) #[] #[])) => namesGW_any m.g G ng cg B W hng (by omega) hB (hS.2.next hb))
  have HL1 := Lib.hid (show (selF wantP m.f).length ≤ nf by rw [← hnf]; exact selF_len _ _)
  have HL2 := Lib.hid (show (selG wantP m.g).length ≤ ng by rw [← hng]; exact selG_len _ _)
  have H16 := Lib.hid h16
  have HSM := Lib.hid (show selM wantP m = selF wantP m.f ++ selG wantP m.g from rfl)
  obtain ⟨i0, qi, qz0, qz1, qz2⟩ := str_inf
  have HII := Lib.hid (And.intro qi (And.intro qz0 (And.intro qz1 qz2)))
  clear hnf hng h16 hS qi qz0 qz1 qz2
  generalize selF wantP m.f = L1 at HNF HL1 HSM
  generalize selG wantP m.g = L2 at HNG HL2 HSM
  rw [HSM.out]
  clear HSM
  go_enter Try.func60, Try.ntmps60
  go_upto_region 1 with fail
  have HX := Lib.hid (show ((w.alloc (.cells #[.slice F nf cf, .slice G ng cg] 25)).alloc (.cells #[.func (.func 62) #[] #[]] 113)).heap[w.heap.size]? = some (.cells #[.slice F nf cf, .slice G ng cg] 25 (0, 0)) from ((balloc (Below.refl _ _) _).block w.heap.size (Array.getElem?_eq_some_iff.1 (heap_alloc_new w _)).1).trans (heap_alloc_new w _))
  have HY := Lib.hid (show ((w.alloc (.cells #[.slice F nf cf, .slice G ng cg] 25)).alloc (.cells #[.func (.func 62) #[] #[]] 113)).heap[w.heap.size + 1]? = some (.cells #[.func (.func 62) #[] #[]] 113 (0, 0)) from by
    have e := heap_alloc_new (w.alloc (.cells #[.slice F nf cf, .slice G ng cg] 25)) (.cells #[.func (.func 62) #[] #[]] 113)
    rwa [World.size_alloc] at e)
  have HB := Lib.hid (balloc (balloc (Below.refl _ w) (.cells #[.slice F nf cf, .slice G ng cg] 25)) (.cells #[.func (.func 62) #[] #[]] 113))
  generalize (w.alloc (.cells #[.slice F nf cf, .slice G ng cg] 25)).alloc (.cells #[.func (.func 62) #[] #[]] 113) = W0 at *
  have c0 := Lib.cell_of_heap HX.out 0
  have c1 := Lib.cell_of_heap HX.out 1
  simp only [List.getElem?_toArray, List.getElem?_cons_zero, List.getElem?_cons_succ] at c0 c1
  go_wp2_with fail
  refine (HNF.out _ W0 HB.out (Lib.cell_of_heap HY.out 0)).mono ?_
  rintro r w1 ⟨v5, rfl, ho5, hb1⟩
  have HX1 := Lib.hid ((hb1.block _ (Array.getElem?_eq_some_iff.1 HX.out).1).trans HX.out)
  have HY1 := Lib.hid ((hb1.block _ (Array.getElem?_eq_some_iff.1 HY.out).1).trans HY.out)
  have HB1 := Lib.hid (bthen HB.out hb1)
  have HO5 := Lib.hid ho5
  have HZ1 := Lib.hid hb1.size
  clear c0 c1 hb1 ho5
  have c0 := Lib.cell_of_heap HX1.out 0
  have c1 := Lib.cell_of_heap HX1.out 1
  simp only [List.getElem?_toArray, List.getElem?_cons_zero, List.getElem?_cons_succ] at c0 c1
  go_wp2_with fail
  refine (HNG.out _ w1 HB1.out (Lib.cell_of_heap HY1.out 0)).mono ?_
  rintro r w2 ⟨v6, rfl, ho6, hb2⟩
  have HB2 := Lib.hid (bthen HB1.out hb2)
  have HO52 := Lib.hid (ownsN_below HO5.out hb2)
  have HO6 := Lib.hid ho6
  have HZ2 := Lib.hid (Nat.le_trans HZ1.out hb2.size)
  obtain ⟨A5, z5, hv5⟩ := HO52.out.form
  obtain ⟨n5, hn5⟩ : ∃ n, L1.length = n := ⟨_, rfl⟩
  obtain ⟨n6, hn6⟩ : ∃ n, L2.length = n := ⟨_, rfl⟩
  rw [hn5] at hv5
  subst hv5
  have HN5 := Lib.hid hn5
  have HN6 := Lib.hid hn6
  have HOWN := Lib.hid (show w2.ownsRow W0.heap.size 9 1 (.slice A5 n5 z5) n5 (strRow L1) by have := HO52.out; unfold OwnsN at this; rwa [hn5] at this)
  have hM : (n5 + n6) * 16 ≤ 140737488355328 := by have := H16.out; have := HL1.out; have := HL2.out; omega
  have HM16 := Lib.hid hM
  have HM63 := Lib.hid (show n5 + n6 ≤ maxLen by unfold maxLen; omega)
  have h6 := ho6
  unfold OwnsN at h6
  rw [hn6] at h6
  have HO6R := Lib.hid h6
  clear hb2 ho6 hn5 hn6 c0 c1 hM
  rcases h6.2 with ⟨e6, hs6⟩ | ⟨g, cap, cur, e6, hr⟩
  · subst e6
    have HL0 := Lib.hid (show L2 = [] from List.length_eq_zero_iff.1 (HN6.out.trans hs6))
    clear h6 hs6
    go_wp2_with (at_builtin; go_loud (refine wpList_append_own_none rfl _ _ 49 rfl W0.heap.size 9 i0 1 Try.underlying49 HII.out.1 (.slice A5 n5 z5) n5 (strRow L1) rfl HOWN.out rfl ?_))
    go_ret
    exact ⟨_, rfl, by rw [HL0.out, List.append_nil]; exact HO52.out.strs, HB2.out⟩
  · subst e6
    have HCL := Lib.hid (h6.cells (g := g) rfl)
    have HLN := Lib.hid (show (strRow L2).length = n6 * 1 by rw [strRow_length, HN6.out, Nat.mul_one])
    have HON := Lib.hid (strRow_one L2)
    clear h6 hr
    go_wp2_with (at_builtin; go_loud (refine wpList_append_own_at _ rfl _ _ 49 rfl W0.heap.size 9 i0 (.string ⟨#[]⟩) 1 16 Try.underlying49 HII.out.1 HII.out.2.1 HII.out.2.2.1 HII.out.2.2.2 rfl (by omega) (.slice A5 n5 z5) n5 (strRow L1) rfl HOWN.out ⟨g, 0, none⟩ n6 cap (strRow L2) rfl HLN.out HCL.out HON.out HM63.out HM16.out HZ2.out ?_; intro v' w4 hown hgrow hnil hat))
    have HG := Lib.hid hgrow
    have HOW := Lib.hid hown
    clear hgrow hown hnil hat
    go_wp2_with fail
    go_ret
    refine ⟨_, rfl, ?_, ?_⟩
    · refine OwnsN.strs (base := W0.heap.size) ?_
      unfold OwnsN
      rw [List.length_append, HN5.out, HN6.out]
      have := HOW.out
      unfold strRow at this ⊢
      rwa [List.map_append]
    · exact HB2.out.trans (below_grown HG.out HB2.out.size (fun r e => Nat.le_trans HB.out.size (HO52.out.block _ e).1))
set_option maxRecDepth 100000 in
theorem wants_any (m : Md) (F G : Option Addr) (nf cf ng cg : Nat) (w : World) (hnf : m.f.length = nf) (hng : m.g.length = ng) (h16 : (nf + ng) * 16 ≤ 140737488355000) (hS : MdAt w (.slice F nf cf) (.slice G ng cg) m) :
    Calls Try.prog 30 #[.agg #[.slice F nf cf, .slice G ng cg]] w (NewNames (selM wantP m) w) := by
  have HT := Lib.hid (fun (W : World) (hb : Below w.heap.size w W) => toldW_any m F G nf cf ng cg W hnf hng h16 (hS.next hb))
  have HB := Lib.hid (balloc (Below.refl _ w) (.cells #[.slice F nf cf, .slice G ng cg] 25))
  clear hnf hng h16 hS
  go_enter Try.func30, Try.ntmps30
  go_wp2_with fail
  refine (HT.out _ HB.out).mono ?_
  rintro r w1 ⟨v, rfl, hs, hb⟩
  have HB1 := Lib.hid (bthen HB.out hb)
  have HST := Lib.hid hs
  clear hb hs
  go_wp2_with fail
  go_ret
  exact ⟨_, rfl, HST.out, HB1.out⟩
end Go.Proofs.Ytcfniagmnkngfaa
