/- Package pick: does a module define one of the names that a map holds? Package pick: the names that are wanted. Package pick: what is taken to begin with. -/
import Derived.Test.YtcfniagmnkngfaaRB
import Derived.Test.YtcfniagmnkngfaaQ2
import Derived.Test.YtcfniagmnkngfaaBK
namespace Go.Proofs.Ytcfniagmnkngfaa
open Go.RowKit

theorem unit_zero (w : World) : (zeroValue 153).run Try.prog w = .ok (.agg #[]) w := by kernel_rfl
/-- a map of names -/
def SetAt (W : World) (b : Nat) (D : DataW Unit) : Prop := ∃ n, W.ownsMap Try.prog 9 unitElem b n D
theorem SetAt.next {W W' : World} {b : Nat} {D : DataW Unit} (h : SetAt W b D) (hb : Below W.heap.size W W') : SetAt W' b D := by
  obtain ⟨n, es, cl, hb', r⟩ := h
  exact ⟨n, es, cl, (hb.block b (Array.getElem?_eq_some_iff.1 hb').1).trans hb', r⟩
set_option maxRecDepth 100000 in
set_option maxHeartbeats 4000000 in
theorem oneOf_any (s : ByteArray) (X b : Nat) (D : DataW Unit) (w : World) (hs : s.size < 9223372036854775808) (hX : w.cell? ⟨X, 0, none⟩ = some (.map (some b))) (hD : SetAt w b D) :
    Calls Try.prog 124 #[.string s, .pointer (some ⟨X, 0, none⟩)] w fun e w' => e = .returned (.bool (Maps.has D (slit s))) ∧ Below w.heap.size w w' := by
  obtain ⟨n, hm⟩ := hD
  have HM := Lib.hid hm
  have HKY := Lib.hid (skey_of hs)
  obtain ⟨Q, hQ⟩ : ∃ Q, Maps.has D (slit s) = Q := ⟨_, rfl⟩
  have HQ := Lib.hid hQ
  rw [hQ]
  clear hm hs hQ
  go_enter Try.func124, Try.ntmps124
  go_wp2_with (at_lookup; refine wpList_lookup_own_unit _ rfl _ _ 152 rfl 9 153 skeyed Try.underlying152 (unit_zero _) b n D rfl HM.out _ _ rfl HKY.out ?_; rw [HQ.out])
  go_ret
  exact ⟨rfl, balloc (Below.refl _ _) _⟩
set_option maxRecDepth 100000 in
set_option maxHeartbeats 4000000 in
theorem indexOne_any (xs : List ByteArray) (A : Option Addr) (n c X b : Nat) (D : DataW Unit) (w : World) (hn : xs.length = n) (h9 : n ≤ 9223372036854775807) (hok : ∀ s ∈ xs, s.size < 9223372036854775808) (hS : Strs w (.slice A n c) xs) (hX : w.cell? ⟨X, 0, none⟩ = some (.map (some b))) (hD : SetAt w b D) :
    Calls Try.prog 147 #[.slice A n c, .func (.func 124) #[] #[.pointer (some ⟨X, 0, none⟩)]] w fun e w' => (∃ r : Int, e = .returned (.int .i64 r) ∧ decide (0 ≤ r) = xs.any fun s => Maps.has D (slit s)) ∧ Below w.heap.size w w' := by
  have HN := Lib.hid (show xs.length ≤ n ∧ n ≤ xs.length by omega)
  have HS := Lib.hid hS
  have hXl := World.block_lt_of_cell? w _ hX
  have HC := Lib.hid (fun (s : ByteArray) (h : s.size < 9223372036854775808) (U : World) (hU : Below w.heap.size w U) => oneOf_any s X b D U h ((cellNext hXl hU 0).trans hX) (hD.next hU))
  have HOK := Lib.hid hok
  have n1 : (n : Int) ≤ 9223372036854775807 := by omega
  obtain ⟨V, hV⟩ : ∃ V, (xs.any fun s => Maps.has D (slit s)) = V := ⟨_, rfl⟩
  have HE := Lib.hid hV
  rw [hV]
  clear hS hX hD hok hn h9 hV hXl
  go_enter Try.func147, Try.ntmps147
  go_wp2_with fail
  go_loopw [8] (fun iv wr => ∃ i : Nat, i ≤ n ∧ iv = .int .i64 i ∧ ((xs.take i).any fun s => Maps.has D (slit s)) = false ∧ Below w.heap.size w wr) (fun iv _ => n - (intOf iv).toNat)
  case atStart => exact ⟨0, Nat.zero_le _, rfl, rfl, Below.refl _ _⟩
  case round =>
    obtain ⟨i, hi, rfl, hs, hb⟩ := hrel
    have HT := Lib.hid hs
    have HB := Lib.hid hb
    clear hs
    by_cases hlt : i < n
    · have hm : i < xs.length := by have := HN.out; omega
      obtain ⟨b1, off, hA, hbl, e0⟩ := RowOf.at_ (HS.out.next hb) hm
      subst hA
      simp only [Nat.mul_one] at e0
      have HY := Lib.hid (show Maps.has D (slit xs[i]) = true → V = true from fun h => by rw [← HE.out]; exact List.any_eq_true.2 ⟨_, List.getElem_mem hm, h⟩)
      have HNX := Lib.hid (show Maps.has D (slit xs[i]) = false → ((xs.take (i + 1)).any fun s => Maps.has D (slit s)) = false from fun h => by
        rw [List.take_succ_eq_append_getElem hm, List.any_append, HT.out]
        simp [h])
      have HCI := Lib.hid (HC.out xs[i] (HOK.out _ (List.getElem_mem hm)) wr hb)
      obtain ⟨s, hx⟩ : ∃ x, xs[i] = x := ⟨_, rfl⟩
      rw [hx] at e0 HY HNX HCI
      obtain ⟨Q, hQ⟩ : ∃ Q, Maps.has D (slit s) = Q := ⟨_, rfl⟩
      rw [hQ] at HY HNX HCI
      have hk0 : (0 : Int) ≤ (i : Int) := Int.natCast_nonneg _
      have hk1 : (i : Int) < (n : Int) := by omega
      have HLT := Lib.hid hlt
      clear hx hm hlt hbl hb hQ
      go_wp2_with fail
      refine HCI.out.mono ?_
      rintro r w2 ⟨rfl, hb2⟩
      have HB2 := Lib.hid (bthen HB.out hb2)
      clear hb2
      cases Q with
      | true =>
        have HV := Lib.hid (HY.out rfl)
        go_wp2_with fail
        go_ret
        exact ⟨⟨_, rfl, by rw [HV.out]; simp⟩, HB2.out⟩
      | false =>
        have HV := Lib.hid (HNX.out rfl)
        go_wp2_with fail
        go_roundw
        case rel => exact ⟨i + 1, HLT.out, by go_num, HV.out, HB2.out⟩
        case measure => have := HLT.out; simp [intOf]; omega
    · have hd : decide ((i : Int) < (n : Int)) = false := by simp; omega
      have HV := Lib.hid (show V = false by
        have h := HT.out
        rw [List.take_of_length_le (by have := HN.out; omega)] at h
        rw [← HE.out, h])
      go_wp2_with fail
      go_ret
      exact ⟨⟨_, rfl, by rw [HV.out]; rfl⟩, HB.out⟩
set_option maxRecDepth 100000 in
set_option maxHeartbeats 4000000 in
theorem containsOne_any (xs : List ByteArray) (A : Option Addr) (n c X b : Nat) (D : DataW Unit) (w : World) (hn : xs.length = n) (h9 : n ≤ 9223372036854775807) (hok : ∀ s ∈ xs, s.size < 9223372036854775808) (hS : Strs w (.slice A n c) xs) (hX : w.cell? ⟨X, 0, none⟩ = some (.map (some b))) (hD : SetAt w b D) :
    Calls Try.prog 123 #[.slice A n c, .func (.func 124) #[] #[.pointer (some ⟨X, 0, none⟩)]] w fun e w' => e = .returned (.bool (xs.any fun s => Maps.has D (slit s))) ∧ Below w.heap.size w w' := by
  have HC := Lib.hid (indexOne_any xs A n c X b D w hn h9 hok hS hX hD)
  generalize (xs.any fun s => Maps.has D (slit s)) = V at *
  clear hn h9 hok hS hX hD
  go_enter Try.func123, Try.ntmps123
  go_wp2_with fail
  refine HC.out.mono ?_
  rintro r w1 ⟨⟨q, rfl, hq⟩, hb⟩
  have HB := Lib.hid hb
  have HQ := Lib.hid hq
  clear hb hq
  go_wp2_with fail
  go_ret
  exact ⟨by first | exact congrArg (fun x => Ending.returned (Value.bool x)) HQ.out | (simp; exact HQ.out), HB.out⟩
theorem selM_size {p : Bool → Int → Bool} {m : Md} (h : MdOk m) : ∀ s ∈ selM p m, s.size < 9223372036854775808 := by
  intro s hs
  unfold selM selF selG at hs
  rcases List.mem_append.1 hs with hs | hs
  · obtain ⟨x, hx, rfl⟩ := List.mem_map.1 hs
    exact (h.1 x (List.mem_filter.1 hx).1).1
  · obtain ⟨x, hx, rfl⟩ := List.mem_map.1 hs
    exact h.2.1 x (List.mem_filter.1 hx).1
set_option maxRecDepth 100000 in
set_option maxHeartbeats 4000000 in
theorem definesOne_any (m : Md) (F G : Option Addr) (nf cf ng cg b : Nat) (D : DataW Unit) (w : World) (hok : MdOk m) (hsm : MdSm m) (hnf : m.f.length = nf) (hng : m.g.length = ng) (hS : MdAt w (.slice F nf cf) (.slice G ng cg) m) (hD : SetAt w b D) :
    Calls Try.prog 96 #[.agg #[.slice F nf cf, .slice G ng cg], .map (some b)] w fun e w' => e = .returned (.bool ((selM defP m).any fun s => Maps.has D (slit s))) ∧ Below w.heap.size w w' := by
  have h16 : (nf + ng) * 16 ≤ 140737488355000 := by have h := mdSm_names hsm; unfold MdS at h; rw [hnf, hng] at h; exact h
  have HT := Lib.hid (fun (W : World) (hb : Below w.heap.size w W) => defines_any m F G nf cf ng cg W hnf hng h16 (hS.next hb))
  have HSZ := Lib.hid (selM_size (p := defP) hok)
  have HLN := Lib.hid (show (selM defP m).length ≤ 9223372036854775807 by have := selM_len defP m; omega)
  have HD := Lib.hid (fun (U : World) (hU : Below w.heap.size w U) => hD.next hU)
  generalize selM defP m = xs at *
  have HB := Lib.hid (balloc (balloc (Below.refl _ w) (.cells #[.slice F nf cf, .slice G ng cg] 25)) (.cells #[.map (some b)] 152))
  have HX := Lib.hid (show ((w.alloc (.cells #[.slice F nf cf, .slice G ng cg] 25)).alloc (.cells #[.map (some b)] 152)).heap[w.heap.size]? = some (.cells #[.slice F nf cf, .slice G ng cg] 25 (0, 0)) from ((balloc (Below.refl _ _) _).block w.heap.size (by simp)).trans (heap_alloc_new w _))
  have HY := Lib.hid (show ((w.alloc (.cells #[.slice F nf cf, .slice G ng cg] 25)).alloc (.cells #[.map (some b)] 152)).heap[w.heap.size + 1]? = some (.cells #[.map (some b)] 152 (0, 0)) from by
    have e := heap_alloc_new (w.alloc (.cells #[.slice F nf cf, .slice G ng cg] 25)) (.cells #[.map (some b)] 152)
    rwa [World.size_alloc] at e)
  clear hok hsm hnf hng hS hD h16
  go_enter Try.func96, Try.ntmps96
  go_upto_region 1 with fail
  generalize (w.alloc (.cells #[.slice F nf cf, .slice G ng cg] 25)).alloc (.cells #[.map (some b)] 152) = W0 at *
  have c0 := Lib.cell_of_heap HX.out 0
  have c1 := Lib.cell_of_heap HX.out 1
  simp only [List.getElem?_toArray, List.getElem?_cons_zero, List.getElem?_cons_succ] at c0 c1
  have HT0 := Lib.hid (HT.out _ HB.out)
  clear HT
  go_wp2_with fail
  refine HT0.out.mono ?_
  rintro r w1 ⟨v1, rfl, hst, hb1⟩
  obtain ⟨A1, z1, rfl⟩ := RowOf.slice hst
  have HB1 := Lib.hid (bthen HB.out hb1)
  have HC := Lib.hid (containsOne_any xs A1 xs.length z1 (w.heap.size + 1) b D w1 rfl HLN.out HSZ.out hst ((World.cell?_of_block (hb1.block _ (Array.getElem?_eq_some_iff.1 HY.out).1)).trans (Lib.cell_of_heap HY.out 0)) (HD.out _ HB1.out))
  clear c0 c1 hst hb1 HT0
  go_wp2_with fail
  refine HC.out.mono ?_
  rintro r w2 ⟨rfl, hb2⟩
  have HB2 := Lib.hid (bthen HB1.out hb2)
  clear hb2 HC
  go_wp2_with fail
  go_ret
  exact ⟨rfl, HB2.out⟩
end Go.Proofs.Ytcfniagmnkngfaa

namespace Go.Proofs.Ytcfniagmnkngfaa
open Go.RowKit

/-- what a map of names says -/
def HasW (D : DataW Unit) (p : ByteArray → Bool) : Prop := ∀ s : ByteArray, s.size < 9223372036854775808 → Maps.has D (slit s) = p s
theorem hasW_put {D : DataW Unit} {p : ByteArray → Bool} (h : HasW D p) (hD : Maps.IsMap D) (x : ByteArray) (d : DataW Unit) : HasW (D.put (slit x) d) (fun s => p s || x == s) := by
  intro s hs
  by_cases e : x = s
  · subst e
    rw [Maps.has_put_same hD (slit_key _)]
    simp [jba_refl]
  · rw [Maps.has_put_other (fun h2 => e (slit_inj h2).symm), h s hs]
    have : (x == s) = false := Bool.eq_false_iff.2 (fun h3 => e ((jba_beq _ _).1 h3))
    simp [this]
theorem hasW_del {D : DataW Unit} {p : ByteArray → Bool} (h : HasW D p) (x : ByteArray) : HasW (D.del (slit x)) (fun s => p s && !(x == s)) := by
  intro s hs
  by_cases e : x = s
  · subst e
    rw [Maps.has_del_same]
    simp [jba_refl]
  · rw [Maps.has_del_other (fun h2 => e (slit_inj h2).symm), h s hs]
    have : (x == s) = false := Bool.eq_false_iff.2 (fun h3 => e ((jba_beq _ _).1 h3))
    simp [this]
theorem HasW.congr {D : DataW Unit} {p q : ByteArray → Bool} (h : HasW D p) (e : ∀ s, p s = q s) : HasW D q := fun s hs => (h s hs).trans (e s)
theorem inB_snoc {l : List ByteArray} {j : Nat} (h : j < l.length) (s : ByteArray) : inB (l.take (j + 1)) s = (inB (l.take j) s || l[j] == s) := by
  unfold inB
  rw [List.take_succ_eq_append_getElem h, List.any_append]
  simp
theorem wantB_snoc {l : List Md} {j : Nat} (h : j < l.length) (s : ByteArray) : wantB (l.take (j + 1)) s = (wantB (l.take j) s || inB (selM wantP l[j]) s) := by
  unfold wantB
  rw [List.take_succ_eq_append_getElem h, List.any_append]
  simp
theorem defB_snoc {l : List Md} {j : Nat} (h : j < l.length) (s : ByteArray) : defB (l.take (j + 1)) s = (defB (l.take j) s || inB (selM defP l[j]) s) := by
  unfold defB
  rw [List.take_succ_eq_append_getElem h, List.any_append]
  simp
def Wanted (l : List Md) (w : World) (e : Ending) (w' : World) : Prop :=
  ∃ b D, e = .returned (.map (some b)) ∧ w.heap.size ≤ b ∧ SetAt w' b D ∧ HasW D (fun s => wantB l s && !defB l s) ∧ Below w.heap.size w w'
set_option maxRecDepth 100000 in
set_option maxHeartbeats 8000000 in
theorem wanted_any (l : List Md) (B mb : Nat) (fv : Value) (A : Option Addr) (n c : Nat) (w : World) (hn : l.length = n) (h9 : n ≤ 1000) (hok : ∀ m ∈ l, MdOk m ∧ MdSm m) (hS : Mods w (.slice A n c) l) (hB : w.heap[B]? = some (.cells #[fv, .map (some mb), .slice A n c] 108 (0, 0))) :
    Calls Try.prog 95 #[.pointer (some ⟨B, 0, none⟩)] w (Wanted l w) := by
  have HN := Lib.hid (show l.length ≤ n ∧ n ≤ l.length by omega)
  have HS := Lib.hid hS
  have HOK := Lib.hid hok
  have HBB := Lib.hid hB
  have n1 : (n : Int) ≤ 1000 := by omega
  have H9 := Lib.hid h9
  clear hn h9 hok hS hB
  have hmm := @run_makeMap Try.prog
  go_enter Try.func95, Try.ntmps95
  go_upto_region 2 with fail
  clear hmm
  have HOM := Lib.hid (World.ownsMap_made (H := Unit) w Try.prog 9 unitElem)
  have HBW := Lib.hid (balloc (Below.refl _ w) (.map #[] 0))
  generalize w.alloc (.map #[] 0) = W0 at *
  have c2 : W0.cell? ⟨B, 2, none⟩ = some (.slice A n c) := Lib.cell_of_heap ((HBW.out.block _ (Array.getElem?_eq_some_iff.1 HBB.out).1).trans HBB.out) 2
  go_wp2_with fail
  clear c2
  go_loopw [18] (fun iv wr => ∃ (i cnt : Nat) (D : DataW Unit), i ≤ n ∧ iv = .int .i64 i ∧ cnt ≤ i * 2000000 ∧ wr.ownsMap Try.prog 9 unitElem w.heap.size cnt D ∧ HasW D (wantB (l.take i)) ∧ Below w.heap.size w wr) (fun iv _ => n - (intOf iv).toNat)
  case atStart => exact ⟨0, 0, _, Nat.zero_le _, rfl, Nat.zero_le _, HOM.out, fun s _ => rfl, HBW.out⟩
  case round =>
    obtain ⟨i, cnt, D, hi, rfl, hcnt, hm, hw, hb⟩ := hrel
    have HM := Lib.hid hm
    have HW := Lib.hid hw
    have HB := Lib.hid hb
    have HCN := Lib.hid hcnt
    clear hm hw hcnt HOM HBW
    by_cases hlt : i < n
    · have hml : i < l.length := by have := HN.out; omega
      obtain ⟨b1, off, hA, hbl, F, cf, G, cg, p0, p1, hmd⟩ := RowOf.at_ (HS.out.next hb) hml
      subst hA
      obtain ⟨hok, hsm⟩ := HOK.out _ (List.getElem_mem hml)
      have h16 : (l[i].f.length + l[i].g.length) * 16 ≤ 140737488355000 := by have h := mdSm_names hsm; unfold MdS at h; exact h
      have HC := Lib.hid (fun (U : World) (hU : Below wr.heap.size wr U) => wants_any l[i] F G l[i].f.length cf l[i].g.length cg U rfl rfl h16 (hmd.next hU))
      have HSZ := Lib.hid (selM_size (p := wantP) hok)
      have HLN := Lib.hid (show (selM wantP l[i]).length ≤ 2000000 by have := selM_len wantP l[i]; have := hsm.1; have := hsm.2.1; omega)
      have HNX := Lib.hid (fun s => wantB_snoc hml s)
      generalize selM wantP l[i] = xs at *
      obtain ⟨nf, hnf⟩ : ∃ q, l[i].f.length = q := ⟨_, rfl⟩
      obtain ⟨ng, hng⟩ : ∃ q, l[i].g.length = q := ⟨_, rfl⟩
      rw [hnf] at p0 HC
      rw [hng] at p1 HC
      have hk0 : (0 : Int) ≤ (i : Int) := Int.natCast_nonneg _
      have hk1 : (i : Int) < (n : Int) := by omega
      have HLT := Lib.hid hlt
      have HM1 := Lib.hid (HM.out.alloc (.cells #[.slice F nf cf, .slice G ng cg] 25))
      have HBA := Lib.hid (balloc (Below.refl _ wr) (.cells #[.slice F nf cf, .slice G ng cg] 25))
      have HCA := Lib.hid (HC.out _ HBA.out)
      clear hnf hng hmd hml hlt hb hbl h16 hok hsm HC
      go_wp2_with fail
      refine HCA.out.mono ?_
      rintro r w2 ⟨v2, rfl, hst, hb2⟩
      obtain ⟨A2, z2, rfl⟩ := RowOf.slice hst
      have HB2 := Lib.hid (bthen HB.out (bthen HBA.out hb2))
      have HM2 := Lib.hid (show w2.ownsMap Try.prog 9 unitElem w.heap.size cnt D from by
        obtain ⟨es, cl, hq, r⟩ := HM1.out
        exact ⟨es, cl, (hb2.block _ (Array.getElem?_eq_some_iff.1 hq).1).trans hq, r⟩)
      obtain ⟨nx, hnx⟩ : ∃ q, xs.length = q := ⟨_, rfl⟩
      rw [hnx] at hst HLN ⊢
      have HST := Lib.hid hst
      have HXN := Lib.hid (show xs.length ≤ nx ∧ nx ≤ xs.length by omega)
      have x1 : (nx : Int) ≤ 2000000 := by have := HLN.out; omega
      clear hst hb2 hnx p0 p1 HCA HM1 HBA
      have HCN0 := Lib.hid (show cnt ≤ i * 2000000 + 0 from Nat.le_trans HCN.out (Nat.le_add_right _ _))
      go_wp2_with fail
      go_loopw [25] (fun jv wi => ∃ (j cnt : Nat) (D : DataW Unit), j ≤ nx ∧ jv = .int .i64 j ∧ cnt ≤ i * 2000000 + j ∧ wi.ownsMap Try.prog 9 unitElem w.heap.size cnt D ∧ HasW D (fun s => wantB (l.take i) s || inB (xs.take j) s) ∧ Below w.heap.size w wi ∧ Strs wi (.slice A2 nx z2) xs) (fun jv _ => nx - (intOf jv).toNat)
      case atStart => exact ⟨0, cnt, D, Nat.zero_le _, rfl, HCN0.out, HM2.out, HW.out.congr (fun s => by simp [inB]), HB2.out, HST.out⟩
      case round =>
        obtain ⟨j, cnt2, D2, hj, rfl, hcnt, hm, hw, hb, hst⟩ := hrel
        have HM3 := Lib.hid hm
        have HW3 := Lib.hid hw
        have HB3 := Lib.hid hb
        have HST3 := Lib.hid hst
        have HCN3 := Lib.hid hcnt
        clear hm hw hcnt HM2 HST
        by_cases hlj : j < nx
        · have hjl : j < xs.length := by have := HXN.out; omega
          obtain ⟨b2, off2, hA2, hbl2, e0⟩ := RowOf.at_ hst hjl
          subst hA2
          simp only [Nat.mul_one] at e0
          have HNJ := Lib.hid (fun s => inB_snoc hjl s)
          have HKY := Lib.hid (skey_of (HSZ.out _ (List.getElem_mem hjl)))
          have HSK := Lib.hid (fun (w3 : World) (hg : wr.grownBy w3 (some w.heap.size)) => (show Strs w3 (.slice (some ⟨b2, off2, none⟩) nx z2) xs from by
            rcases hst with ⟨e, -⟩ | ⟨h0, b, off, cap, e, h1, h2⟩
            · rw [e] at hjl; simp at hjl
            · have e2 := (Value.slice.inj e).1
              simp only [Option.some.injEq, Addr.mk.injEq, and_true] at e2
              obtain ⟨rfl, rfl⟩ := e2
              have hne : b2 ≠ w.heap.size := fun e3 => by
                obtain ⟨es, cl, hq, -⟩ := HM3.out
                rw [← e3] at hq
                have := h2 0 h0
                simp [World.cell?, hq] at this
              have hk := hg.block b2 h1 (fun e3 => hne (Option.some.inj e3))
              exact .inr ⟨h0, b2, off2, cap, e, Nat.lt_of_lt_of_le h1 hg.size, fun q hq => (World.cell?_of_block hk).trans (h2 q hq)⟩))
          obtain ⟨x, hx⟩ : ∃ x, xs[j] = x := ⟨_, rfl⟩
          rw [hx] at e0 HKY
          simp only [hx] at HNJ
          have q0 : (0 : Int) ≤ (j : Int) := Int.natCast_nonneg _
          have q1 : (j : Int) < (nx : Int) := by omega
          have HLJ := Lib.hid hlj
          have HML := Lib.hid (show cnt2 < maxLen by have h1 := HCN3.out; have h2 := H9.out; have h3 := HLN.out; have h4 := HLT.out; have : i * 2000000 ≤ 1000 * 2000000 := Nat.mul_le_mul_right _ (by omega); unfold maxLen; omega)
          clear hx hjl hlj hbl2 hst hb
          go_wp2_with (at_mapUpdate; refine wpList_mapUpdate_own _ rfl _ _ _ 152 rfl 9 153 skeyed Try.underlying152 _ w.heap.size cnt2 _ rfl HM3.out HML.out _ _ _ rfl rfl HKY.out (.agg []) [] unitElem_mk ?_; intro w3 hm3 hg3)
          have HM4 := Lib.hid hm3
          have HB4 := Lib.hid (below_turned HB3.out hg3 (Nat.le_refl _) HB3.out.size)
          have HS4 := Lib.hid (HSK.out w3 hg3)
          have HW4 := Lib.hid ((hasW_put HW3.out HM3.out.isMap x (.agg [])).congr (q := fun s => wantB (l.take i) s || inB (xs.take (j + 1)) s) (fun s => by simp only [HNJ.out s, Bool.or_assoc]))
          clear hm3 hg3 e0 HSK
          go_wp2_with fail
          go_roundw
          case rel => exact ⟨j + 1, cnt2 + 1, _, HLJ.out, by go_num, by have := HCN3.out; omega, HM4.out, HW4.out, HB4.out, HS4.out⟩
          case measure => have := HLJ.out; simp [intOf]; omega
        · have hd : decide ((j : Int) < (nx : Int)) = false := by simp; omega
          have HW4 := Lib.hid (HW3.out.congr (q := wantB (l.take (i + 1))) (fun s => by rw [HNX.out s, List.take_of_length_le (l := xs) (i := j) (by have := HXN.out; omega)]))
          clear hst hb
          go_wp2_with fail
          go_roundw
          case rel => exact ⟨i + 1, cnt2, D2, HLT.out, by go_num, by have := HCN3.out; have := HLN.out; omega, HM3.out, HW4.out, HB3.out⟩
          case measure => have := HLT.out; simp [intOf]; omega
    · have hd : decide ((i : Int) < (n : Int)) = false := by simp; omega
      have HW1 := Lib.hid (HW.out.congr (q := fun s => wantB l s && !defB (l.take 0) s) (fun s => by rw [List.take_of_length_le (by have := HN.out; omega)]; simp [defB]))
      have c2 : wr.cell? ⟨B, 2, none⟩ = some (.slice A n c) := Lib.cell_of_heap ((hb.block _ (Array.getElem?_eq_some_iff.1 HBB.out).1).trans HBB.out) 2
      clear hb
      go_wp2_with fail
      clear c2 hd
      go_loopw [39] (fun iv wr => ∃ (i cnt : Nat) (D : DataW Unit), i ≤ n ∧ iv = .int .i64 i ∧ wr.ownsMap Try.prog 9 unitElem w.heap.size cnt D ∧ HasW D (fun s => wantB l s && !defB (l.take i) s) ∧ Below w.heap.size w wr) (fun iv _ => n - (intOf iv).toNat)
      case atStart => exact ⟨0, cnt, D, Nat.zero_le _, rfl, HM.out, HW1.out, HB.out⟩
      case round =>
        obtain ⟨i, cnt, D, hi, rfl, hm, hw, hb⟩ := hrel
        have HM := Lib.hid hm
        have HW := Lib.hid hw
        have HB := Lib.hid hb
        clear hm hw HW1
        by_cases hlt : i < n
        · have hml : i < l.length := by have := HN.out; omega
          obtain ⟨b1, off, hA, hbl, F, cf, G, cg, p0, p1, hmd⟩ := RowOf.at_ (HS.out.next hb) hml
          subst hA
          obtain ⟨hok, hsm⟩ := HOK.out _ (List.getElem_mem hml)
          have h16 : (l[i].f.length + l[i].g.length) * 16 ≤ 140737488355000 := by have h := mdSm_names hsm; unfold MdS at h; exact h
          have HC := Lib.hid (fun (U : World) (hU : Below wr.heap.size wr U) => defines_any l[i] F G l[i].f.length cf l[i].g.length cg U rfl rfl h16 (hmd.next hU))
          have HSZ := Lib.hid (selM_size (p := defP) hok)
          have HLN := Lib.hid (show (selM defP l[i]).length ≤ 2000000 by have := selM_len defP l[i]; have := hsm.1; have := hsm.2.1; omega)
          have HNX := Lib.hid (fun s => defB_snoc hml s)
          generalize selM defP l[i] = xs at *
          obtain ⟨nf, hnf⟩ : ∃ q, l[i].f.length = q := ⟨_, rfl⟩
          obtain ⟨ng, hng⟩ : ∃ q, l[i].g.length = q := ⟨_, rfl⟩
          rw [hnf] at p0 HC
          rw [hng] at p1 HC
          have hk0 : (0 : Int) ≤ (i : Int) := Int.natCast_nonneg _
          have hk1 : (i : Int) < (n : Int) := by omega
          have HLT := Lib.hid hlt
          have HM1 := Lib.hid (HM.out.alloc (.cells #[.slice F nf cf, .slice G ng cg] 25))
          have HBA := Lib.hid (balloc (Below.refl _ wr) (.cells #[.slice F nf cf, .slice G ng cg] 25))
          have HCA := Lib.hid (HC.out _ HBA.out)
          clear hnf hng hmd hml hlt hb hbl h16 hok hsm HC
          go_wp2_with fail
          refine HCA.out.mono ?_
          rintro r w2 ⟨v2, rfl, hst, hb2⟩
          obtain ⟨A2, z2, rfl⟩ := RowOf.slice hst
          have HB2 := Lib.hid (bthen HB.out (bthen HBA.out hb2))
          have HM2 := Lib.hid (show w2.ownsMap Try.prog 9 unitElem w.heap.size cnt D from by
            obtain ⟨es, cl, hq, r⟩ := HM1.out
            exact ⟨es, cl, (hb2.block _ (Array.getElem?_eq_some_iff.1 hq).1).trans hq, r⟩)
          obtain ⟨nx, hnx⟩ : ∃ q, xs.length = q := ⟨_, rfl⟩
          rw [hnx] at hst HLN ⊢
          have HST := Lib.hid hst
          have HXN := Lib.hid (show xs.length ≤ nx ∧ nx ≤ xs.length by omega)
          have x1 : (nx : Int) ≤ 2000000 := by have := HLN.out; omega
          clear hst hb2 hnx p0 p1 HCA HM1 HBA
          go_wp2_with fail
          go_loopw [46] (fun jv wi => ∃ (j cnt : Nat) (D : DataW Unit), j ≤ nx ∧ jv = .int .i64 j ∧ wi.ownsMap Try.prog 9 unitElem w.heap.size cnt D ∧ HasW D (fun s => wantB l s && !(defB (l.take i) s || inB (xs.take j) s)) ∧ Below w.heap.size w wi ∧ Strs wi (.slice A2 nx z2) xs) (fun jv _ => nx - (intOf jv).toNat)
          case atStart => exact ⟨0, cnt, D, Nat.zero_le _, rfl, HM2.out, HW.out.congr (fun s => by simp [inB]), HB2.out, HST.out⟩
          case round =>
            obtain ⟨j, cnt2, D2, hj, rfl, hm, hw, hb, hst⟩ := hrel
            have HM3 := Lib.hid hm
            have HW3 := Lib.hid hw
            have HB3 := Lib.hid hb
            have HST3 := Lib.hid hst
            clear hm hw HM2 HST
            by_cases hlj : j < nx
            · have hjl : j < xs.length := by have := HXN.out; omega
              obtain ⟨b2, off2, hA2, hbl2, e0⟩ := RowOf.at_ hst hjl
              subst hA2
              simp only [Nat.mul_one] at e0
              have HNJ := Lib.hid (fun s => inB_snoc hjl s)
              have HKY := Lib.hid (skey_of (HSZ.out _ (List.getElem_mem hjl)))
              have HSK := Lib.hid (fun (w3 : World) (hg : wr.grownBy w3 (some w.heap.size)) => (show Strs w3 (.slice (some ⟨b2, off2, none⟩) nx z2) xs from by
                rcases hst with ⟨e, -⟩ | ⟨h0, b, off, cap, e, h1, h2⟩
                · rw [e] at hjl; simp at hjl
                · have e2 := (Value.slice.inj e).1
                  simp only [Option.some.injEq, Addr.mk.injEq, and_true] at e2
                  obtain ⟨rfl, rfl⟩ := e2
                  have hne : b2 ≠ w.heap.size := fun e3 => by
                    obtain ⟨es, cl, hq, -⟩ := HM3.out
                    rw [← e3] at hq
                    have := h2 0 h0
                    simp [World.cell?, hq] at this
                  have hk := hg.block b2 h1 (fun e3 => hne (Option.some.inj e3))
                  exact .inr ⟨h0, b2, off2, cap, e, Nat.lt_of_lt_of_le h1 hg.size, fun q hq => (World.cell?_of_block hk).trans (h2 q hq)⟩))
              obtain ⟨x, hx⟩ : ∃ x, xs[j] = x := ⟨_, rfl⟩
              rw [hx] at e0 HKY
              simp only [hx] at HNJ
              have q0 : (0 : Int) ≤ (j : Int) := Int.natCast_nonneg _
              have q1 : (j : Int) < (nx : Int) := by omega
              have HLJ := Lib.hid hlj
              clear hx hjl hlj hbl2 hst hb
              go_wp2_with (at_delete; refine wpList_delete_own _ rfl _ _ 152 9 rfl 153 skeyed Try.underlying152 _ w.heap.size cnt2 _ rfl HM3.out _ _ rfl HKY.out ?_; intro w3 hm3 hg3)
              have HM4 := Lib.hid hm3
              have HB4 := Lib.hid (below_turned HB3.out hg3.grown (Nat.le_refl _) HB3.out.size)
              have HS4 := Lib.hid (HSK.out w3 hg3.grown)
              have HW4 := Lib.hid ((hasW_del HW3.out x).congr (q := fun s => wantB l s && !(defB (l.take i) s || inB (xs.take (j + 1)) s)) (fun s => by simp only [HNJ.out s, Bool.not_or, Bool.and_assoc]))
              clear hm3 hg3 e0 HSK
              go_wp2_with fail
              go_roundw
              case rel => exact ⟨j + 1, cnt2, _, HLJ.out, by go_num, HM4.out, HW4.out, HB4.out, HS4.out⟩
              case measure => have := HLJ.out; simp [intOf]; omega
            · have hd : decide ((j : Int) < (nx : Int)) = false := by simp; omega
              have HW4 := Lib.hid (HW3.out.congr (q := fun s => wantB l s && !defB (l.take (i + 1)) s) (fun s => by rw [HNX.out s, List.take_of_length_le (l := xs) (i := j) (by have := HXN.out; omega)]))
              clear hst hb
              go_wp2_with fail
              go_roundw
              case rel => exact ⟨i + 1, cnt2, D2, HLT.out, by go_num, HM3.out, HW4.out, HB3.out⟩
              case measure => have := HLT.out; simp [intOf]; omega
        · have hd : decide ((i : Int) < (n : Int)) = false := by simp; omega
          have HW1 := Lib.hid (HW.out.congr (q := fun s => wantB l s && !defB l s) (fun s => by rw [List.take_of_length_le (by have := HN.out; omega)]))
          clear hb
          go_wp2_with fail
          go_ret
          exact ⟨_, D, rfl, Nat.le_refl _, ⟨cnt, HM.out⟩, HW1.out, HB.out⟩
end Go.Proofs.Ytcfniagmnkngfaa

namespace Go.Proofs.Ytcfniagmnkngfaa
open Go.RowKit

theorem PkAt.next {w0 : World} {fv : Value} {l : List Fl} {B mb : Nat} {s : Tk} {k : Nat} {W W' : World} (h : PkAt w0 fv l B mb s k W) (hb : Below W.heap.size W W') : PkAt w0 fv l B mb s k W' := by
  obtain ⟨v, D, h1, h2, h3, h4, h5, h6, h7, h8, h9, h10⟩ := h
  refine ⟨v, D, (hb.block B (Array.getElem?_eq_some_iff.1 h1).1).trans h1, h2.keep hb.size (fun b _ b1 _ _ => hb.block b b1) (.inl rfl) (.inl rfl) ⟨h9, h10⟩, ?_, h4, bthen h5 hb, h6, h7, h8, h9, h10⟩
  obtain ⟨es, cl, hq, r⟩ := h3
  exact ⟨es, cl, (hb.block _ (Array.getElem?_eq_some_iff.1 hq).1).trans hq, r⟩
/-- files that may be linked -/
structure Good (l : List Fl) : Prop where
  ok : ∀ f ∈ l, FlOk f
  n8 : l.length ≤ 8
  m16 : sumM l ≤ 16
  one : oneB l = true
  right : ∀ f ∈ l, ∀ m ∈ f.m, checkE m = 0
theorem firstE_zero {l : List Md} (h : firstE l = 0) : ∀ m ∈ l, checkE m = 0 := by
  induction l with
  | nil => intro m hm; simp at hm
  | cons x l ih =>
    unfold firstE at h
    intro m hm
    by_cases hx : checkE x = 0
    · rw [if_pos hx] at h
      rcases List.mem_cons.1 hm with rfl | hm
      · exact hx
      · exact ih h m hm
    · rw [if_neg hx] at h
      exact absurd h hx
theorem good_of {l : List Fl} (hok : ∀ f ∈ l, FlOk f) (h : pickE l = 0) : Good l := by
  unfold pickE at h
  by_cases h1 : 8 < l.length ∨ 16 < sumM l
  · rw [if_pos h1] at h; cases h
  rw [if_neg h1] at h
  by_cases h2 : oneB l = false
  · rw [if_pos h2] at h; cases h
  rw [if_neg h2] at h
  exact ⟨hok, by omega, by omega, by simpa using h2, fun f hf m hm => firstE_zero h m (List.mem_flatten.2 ⟨f.m, List.mem_map_of_mem hf, hm⟩)⟩
theorem Good.len {l : List Fl} (g : Good l) : ∀ f ∈ l, f.m.length ≤ 16 := fun f hf => by
  obtain ⟨i, hi, rfl⟩ := List.getElem_of_mem hf
  have := off_lt (l := l) hi (k := l[i].m.length - 1)
  by_cases h0 : l[i].m.length = 0
  · omega
  · have h1 := this (by omega)
    rw [flat_length] at h1
    have := g.m16
    omega
theorem Good.oneAt {l : List Fl} (g : Good l) {i : Nat} (hi : i < l.length) (ha : l[i].a = false) : l[i].m.length = 1 := by
  have h := g.one
  unfold oneB at h
  rw [List.all_eq_true] at h
  have := h _ (List.getElem_mem hi)
  rw [ha] at this
  simpa using this
theorem flat_take {l : List Fl} {i : Nat} (hi : i < l.length) : flat (l.take (i + 1)) = flat (l.take i) ++ l[i].m.map (fun m => (l[i].a, m)) := by
  unfold flat
  rw [List.take_succ_eq_append_getElem hi, List.map_append, List.flatten_append]
  simp
theorem objs_take {l : List Fl} {i : Nat} (hi : i < l.length) : objs (flat (l.take (i + 1))) = objs (flat (l.take i)) ++ (if l[i].a = true then [] else l[i].m) := by
  rw [flat_take hi]
  unfold objs
  rw [List.filter_append, List.map_append]
  congr 1
  cases ha : l[i].a with
  | true => simp
  | false => simp [List.filter_eq_self.2, Function.comp_def]
def begI (l : List Fl) (i : Nat) : Tk := ⟨fun q => decide (q < offL l i) && (begT (flat l)).t q, objs (flat (l.take i))⟩
theorem begT_at {l : List Fl} {i k : Nat} (hi : i < l.length) (hk : k < l[i].m.length) : (begT (flat l)).t (offL l i + k) = !l[i].a := by
  have h := flat_get hi hk
  have hlt := off_lt hi hk
  simp only [begT, List.getElem?_eq_getElem hlt, h]
theorem begI_skip {l : List Fl} {i : Nat} (hi : i < l.length) (ha : l[i].a = true) : begI l (i + 1) = begI l i := by
  unfold begI
  congr 1
  · funext q
    by_cases h1 : q < offL l i
    · have h2 : q < offL l (i + 1) := by rw [offL_succ hi]; omega
      simp [h1, h2]
    · by_cases h2 : q < offL l (i + 1)
      · rw [offL_succ hi] at h2
        have h3 := begT_at hi (k := q - offL l i) (by omega)
        rw [show offL l i + (q - offL l i) = q by omega, ha] at h3
        simp [h1, h3]
      · simp [h1, h2]
  · rw [objs_take hi, if_pos ha, List.append_nil]
theorem begI_take {l : List Fl} {i : Nat} (hi : i < l.length) (ha : l[i].a = false) (h1 : l[i].m.length = 1) : begI l (i + 1) = ⟨fun q => q == offL l i + 0 || (begI l i).t q, (begI l i).r ++ [l[i].m[0]]⟩ := by
  unfold begI
  congr 1
  · funext q
    have h3 := begT_at hi (k := 0) (by omega)
    rw [ha, Nat.add_zero] at h3
    rw [offL_succ hi, h1]
    by_cases e : q = offL l i
    · subst e
      simp [h3]
    · by_cases h2 : q < offL l i
      · have : q < offL l i + 1 := by omega
        simp [h2, this, e]
      · have : ¬ q < offL l i + 1 := by omega
        simp [h2, this, e]
  · rw [objs_take hi, ha]
    simp only [Bool.false_eq_true, if_false]
    congr 1
    exact List.ext_getElem (by simpa using h1) (fun j j1 j2 => by
      have : j = 0 := by omega
      subst this
      rfl)
theorem begI_zero (l : List Fl) : begI l 0 = ⟨fun _ => false, []⟩ := by
  unfold begI
  congr 1
theorem begI_all {l : List Fl} {i : Nat} (hi : l.length ≤ i) : begI l i = begT (flat l) := by
  unfold begI
  rw [List.take_of_length_le hi]
  have : ∀ q, (decide (q < offL l i) && (begT (flat l)).t q) = (begT (flat l)).t q := fun q => by
    by_cases h : q < offL l i
    · simp [h]
    · have h2 : (flat l)[q]? = none := by rw [List.getElem?_eq_none]; rw [flat_length, ← offL_all (l := l) hi]; omega
      simp [begT, h2]
  show (⟨_, _⟩ : Tk) = ⟨_, _⟩
  congr 1
  funext q
  exact this q
theorem objs_len {l : List Fl} (i : Nat) : (objs (flat (l.take i))).length ≤ sumM l := by
  unfold objs
  rw [List.length_map]
  refine Nat.le_trans (List.length_filter_le _ _) ?_
  rw [flat_length]
  show offL l i ≤ _
  have := offL_mono (l := l) (i := i) (k := max i l.length) (Nat.le_max_left _ _)
  rw [offL_all (i := max i l.length) (Nat.le_max_right _ _)] at this
  exact this
theorem pk_info : (Try.prog.info? 108).map (·.size) = some 3 := by kernel_rfl
theorem pk_results (tmps : Array Value) (w : World) (B : Nat) (a b c : Value) (hB : w.heap[B]? = some (.cells #[a, b, c] 108 (0, 0))) (h2 : tmps.getD 2 undef = .pointer (some ⟨B, 0, none⟩)) :
    (results Try.f58 tmps).run Try.prog w = .ok (.agg #[a, b, c]) w := by
  have c0 : w.cell? ⟨B, 0, none⟩ = some a := Lib.cell_of_heap hB 0
  have c1 : w.cell? ⟨B, 1, none⟩ = some b := Lib.cell_of_heap hB 1
  have c2 : w.cell? ⟨B, 2, none⟩ = some c := Lib.cell_of_heap hB 2
  rw [Array.getD_eq_getD_getElem?] at h2
  simp [results, Try.results58, go_sem, h2, c0, c1, c2]
/-- what begun answers: it lies so behind each pointer to a new box -/
def Begun (l : List Fl) (fv : Value) (w : World) (e : Ending) (w' : World) : Prop :=
  ∃ mb v k, e = .returned (.agg #[fv, .map (some mb), v]) ∧ k ≤ 8 ∧ PkAt w fv l w'.heap.size mb (begT (flat l)) k (w'.alloc (.cells #[fv, .map (some mb), v] 108)) ∧ Below w.heap.size w w'
set_option maxRecDepth 100000 in
set_option maxHeartbeats 8000000 in
theorem begun_any (l : List Fl) (A : Option Addr) (n c : Nat) (w : World) (hn : l.length = n) (g : Good l) (hF : Files w (.slice A n c) l) :
    Calls Try.prog 58 #[.slice A n c] w (Begun l (.slice A n c) w) := by
  have HN := Lib.hid (show l.length ≤ n ∧ n ≤ l.length by omega)
  have HNQ := Lib.hid hn
  have HG := Lib.hid g
  have HF := Lib.hid hF
  have n1 : (n : Int) ≤ 8 := by have := g.n8; omega
  clear hn g hF
  have hmm := @run_makeMap Try.prog
  go_enter Try.func58, Try.ntmps58
  go_upto_region 1 with fail
  obtain ⟨W0, hW0⟩ : ∃ W0, w.alloc (.cells #[.slice none 0 0, .map none, .slice none 0 0] 108) = W0 := ⟨_, rfl⟩
  have HB0 := Lib.hid (show Below w.heap.size w W0 by rw [← hW0]; exact balloc (Below.refl _ w) _)
  have HX0 := Lib.hid (show W0.heap[w.heap.size]? = some (.cells #[.slice none 0 0, .map none, .slice none 0 0] 108 (0, 0)) by rw [← hW0]; exact heap_alloc_new w _)
  have HZ0 := Lib.hid (show W0.heap.size ≤ w.heap.size + 1 ∧ w.heap.size + 1 ≤ W0.heap.size by rw [← hW0]; simp)
  try rw [hW0]
  have HF0 := Lib.hid (HF.out.next HB0.out)
  obtain ⟨mb, hmb⟩ : ∃ mb, W0.heap.size = mb := ⟨_, rfl⟩
  obtain ⟨B, hB⟩ : ∃ B, mb + 1 = B := ⟨_, rfl⟩
  have HP1 := Lib.hid (show PkAt W0 (.slice A n c) l B mb (begI l 0) 0 ((W0.alloc (.map #[] 0)).alloc (.cells #[.slice A n c, .map (some mb), .slice none 0 0] 108)) from by
    have e := heap_alloc_new (W0.alloc (.map #[] 0)) (.cells #[.slice A n c, .map (some mb), .slice none 0 0] 108)
    rw [World.size_alloc, hmb, hB] at e
    refine ⟨.slice none 0 0, _, e, ⟨[], ⟨by rw [begI_zero]; rfl, .inl ⟨rfl, by rw [begI_zero]; rfl⟩⟩, fun j hj => by rw [begI_zero] at hj; simp at hj⟩, by rw [← hmb]; exact (World.ownsMap_made (H := Unit) W0 Try.prog 158 unitElem).alloc _, fun i k hi hk => by rw [begI_zero]; rfl, balloc (balloc (Below.refl _ W0) _) _, by omega, by omega, by omega, by simp [Value.ownBlock], by simp [Value.ownBlock]⟩)
  go_upto_region 2 with fail
  try rw [hmb]
  try rw [hB]
  clear hmm hW0 hmb hB
  go_wp2_with fail
  go_loopw [11] (fun iv wr => ∃ i k : Nat, i ≤ n ∧ iv = .int .i64 i ∧ k ≤ i ∧ PkAt W0 (.slice A n c) l B mb (begI l i) k wr) (fun iv _ => n - (intOf iv).toNat)
  case atStart => exact ⟨0, 0, Nat.zero_le _, rfl, Nat.le_refl _, HP1.out⟩
  case round =>
    obtain ⟨i, k, hi, rfl, hk, hp⟩ := hrel
    have HP := Lib.hid hp
    have HK := Lib.hid hk
    clear hp hk HP1
    have hbw : Below W0.heap.size W0 wr := by obtain ⟨v, D, -, -, -, -, h5, -⟩ := HP.out; exact h5
    by_cases hlt : i < n
    · have hm : i < l.length := by have := HN.out; omega
      obtain ⟨b1, off, hA, hbl, e0⟩ := RowOf.at_ HF0.out hm
      subst hA
      obtain ⟨g0, A3, z3, g1, -⟩ := FlIn.next _ _ _ _ _ hbl hbw e0
      have HSK := Lib.hid (fun h => begI_skip hm h)
      have HT := Lib.hid (show l[i].a = false → ∀ U : World, Below wr.heap.size wr U → Calls Try.prog 94 #[.pointer (some ⟨B, 0, none⟩), placeV i 0] U fun e w' => (∃ v, e = .returned v) ∧ PkAt W0 (.slice (some ⟨b1, off, none⟩) n c) l B mb (begI l (i + 1)) (k + 1) w' from fun ha U hU => by
        have h1 := HG.out.oneAt hm ha
        have h8 := HG.out.n8
        have h16 := HG.out.m16
        have hl := objs_len (l := l) i
        rw [begI_take hm ha h1]
        exact take_any W0 U l (some ⟨b1, off, none⟩) n c B mb (begI l i) k i 0 (by have := HK.out; omega) HNQ.out (by have := HNQ.out; omega) (fun f hf => by have := HG.out.len f hf; omega) HF0.out hm (by omega) (check_small (HG.out.right _ (List.getElem_mem hm) _ (List.getElem_mem _))) (by show (objs (flat (l.take i))).length ≤ 1000; omega) (HP.out.next hU))
      obtain ⟨x0, h0⟩ : ∃ z, l[i].a = z := ⟨_, rfl⟩
      obtain ⟨x1, h1⟩ : ∃ z, l[i].m.length = z := ⟨_, rfl⟩
      rw [h0] at g0
      simp only [h0] at HSK HT
      rw [h1] at g1
      have hk0 : (0 : Int) ≤ (i : Int) := Int.natCast_nonneg _
      have hk1 : (i : Int) < (n : Int) := by omega
      have HLT := Lib.hid hlt
      have HBX := Lib.hid (balloc (Below.refl _ wr) (.cells #[.bool x0, .slice A3 x1 z3] 55))
      have HPN := Lib.hid (HP.out.next HBX.out)
      clear h0 h1 hm hlt hbl e0 hbw
      cases x0 with
      | true =>
        have HS := Lib.hid (HSK.out rfl)
        clear HT
        go_wp2_with fail
        go_roundw
        case rel => exact ⟨i + 1, k, HLT.out, by go_num, by have := HK.out; omega, by rw [HS.out]; exact HPN.out⟩
        case measure => have := HLT.out; simp [intOf]; omega
      | false =>
        have HC := Lib.hid (show Calls Try.prog 94 #[.pointer (some ⟨B, 0, none⟩), .agg #[.int .i64 i, .int .i64 0]] _ _ from HT.out rfl _ HBX.out)
        clear HT HSK
        go_wp2_with fail
        refine HC.out.mono ?_
        rintro r w2 ⟨⟨v2, rfl⟩, hp2⟩
        have HP2 := Lib.hid hp2
        clear hp2 HC g0 g1
        go_wp2_with fail
        go_roundw
        case rel => exact ⟨i + 1, k + 1, HLT.out, by go_num, by have := HK.out; omega, HP2.out⟩
        case measure => have := HLT.out; simp [intOf]; omega
    · have hd : decide ((i : Int) < (n : Int)) = false := by simp; omega
      obtain ⟨v, D, h1, h2, h3, h4, h5, h6, h7, h8, h9, h10⟩ := HP.out
      have HV1 := Lib.hid (show (#[.slice A n c, .map (some mb), v] : Array Value).all (·.oneCell') = true by obtain ⟨ys9, ho9, -⟩ := h2; obtain ⟨A9, c9, rfl⟩ := ownsRow_slice ho9; simp [Value.oneCell'])
      have hBlt := (Array.getElem?_eq_some_iff.1 h1).1
      have c0 : wr.cell? ⟨B, 0, none⟩ = some (.slice A n c) := Lib.cell_of_heap h1 0
      have c1 : wr.cell? ⟨B, 1, none⟩ = some (.map (some mb)) := Lib.cell_of_heap h1 1
      have c2 : wr.cell? ⟨B, 2, none⟩ = some v := Lib.cell_of_heap h1 2
      have HX := Lib.hid ((h5.block _ (by have := HZ0.out; omega)).trans HX0.out)
      have HR := Lib.hid (setRow_heap wr w.heap.size _ #[.slice A n c, .map (some mb), v] _ _ HX.out)
      have HFI := Lib.hid (show Begun l (.slice A n c) w (.returned (.agg #[.slice A n c, .map (some mb), v])) (wr.setRow w.heap.size #[.slice A n c, .map (some mb), v]) from by
        have hz := HZ0.out
        have hsz : (wr.setRow w.heap.size #[.slice A n c, .map (some mb), v]).heap.size = wr.heap.size := by simp
        have low : ∀ q, q < wr.heap.size → q ≠ w.heap.size → ((wr.setRow w.heap.size #[.slice A n c, .map (some mb), v]).alloc (.cells #[.slice A n c, .map (some mb), v] 108)).heap[q]? = wr.heap[q]? := fun q q1 q2 => (Lib.alloc_old _ _ _ (by omega)).trans (setRow_other _ _ q _ q2)
        have hbs : Below w.heap.size w (wr.setRow w.heap.size #[.slice A n c, .map (some mb), v]) := ((HB0.out.trans (h5.mono (by omega)))).trans ⟨rfl, rfl, rfl, by simp, fun q q1 => setRow_other _ _ q _ (by omega)⟩
        have hv : ∀ q, v.ownBlock = some q → q < wr.heap.size := fun q hq => by obtain ⟨ys, ho, -⟩ := h2; exact (ho.lt q hq).2
        rw [begI_all (by have := HN.out; omega)] at h2 h4
        refine ⟨mb, v, k, rfl, by have := HK.out; have := HG.out.n8; have := HN.out; omega, ⟨v, D, heap_alloc_new _ _, ?_, ?_, h4, bthen hbs (balloc (Below.refl _ _) _), by omega, by omega, by have := h3.lt; omega, fun e => by have := hv _ e; omega, h10⟩, hbs⟩
        · exact (h2.keep (by simp) (fun b b0 b1 _ _ => low b b1 (by omega)) (.inr (by omega)) (.inl rfl) ⟨h9, h10⟩).down (by omega)
        · obtain ⟨es, cl, hq, r⟩ := h3
          exact ⟨es, cl, (low _ (Array.getElem?_eq_some_iff.1 hq).1 (by omega)).trans hq, r⟩)
      clear h1 h2 h3 h4 h5 h6 h7 h8 h9 h10 hbw
      go_wp2_with (refine wpList_store_row rfl _ _ _ rfl w.heap.size #[.slice A n c, .map (some mb), v] rfl rfl _ _ HX.out pk_info rfl HV1.out ?_)
      exact bodyPost_ret (pk_results _ _ w.heap.size _ _ _ HR.out rfl) rfl HFI.out
end Go.Proofs.Ytcfniagmnkngfaa
