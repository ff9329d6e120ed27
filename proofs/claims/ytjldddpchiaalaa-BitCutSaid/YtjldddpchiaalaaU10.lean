/- Package bit: Bytes, of every module. -/
import Derived.Test.YtjldddpchiaalaaU9
import Derived.Test.YtjldddpchiaalaaUA
namespace Go.Proofs.Ytjldddpchiaalaa
open Go.RowKit
namespace Q

theorem mdL_four (m : Md) : (mdL m).length = 4 + ((rowL fnL m.f).length + (rowL glL m.g).length) := by
  unfold mdL
  simp only [List.length_append, List.length_cons, List.length_nil]
  omega
theorem mdL_ne (m : Md) : mdL m ≠ [] := by
  intro h
  have := mdL_four m
  rw [h, List.length_nil] at this
  omega
theorem cell_alloc_old {W : World} {b : Nat} {cs : Array Value} {T : TypeId} {fr : Nat × Nat} (h : W.heap[b]? = some (.cells cs T fr)) (o : Obj) (j : Nat) : (W.alloc o).cell? ⟨b, j, none⟩ = cs[j]? :=
  Lib.cell_of_heap ((Lib.alloc_old W o b (Array.getElem?_eq_some_iff.1 h).1).trans h) j
theorem fl_new (U : World) (B : Nat) (hB : B ≤ U.heap.size) : Fl (U.alloc (.cells #[.pointer none, .slice none 0 0] 47)) B U.heap.size [] :=
  .inl ⟨hB, .slice none 0 0, heap_alloc_new _ _, World.ownsRow_nil _ _ _ _, by simp [Value.ownBlock]⟩
set_option maxRecDepth 100000 in
set_option maxHeartbeats 4000000 in
theorem bytes_any (m : Md) (F G : Option Addr) (nf cf ng cg : Nat) (w : World) (hok : MdOk m) (hw : MdW m) (hnf : m.f.length = nf) (hng : m.g.length = ng) (hS : MdAt w (.slice F nf cf) (.slice G ng cg) m) :
    Calls Try.prog 8 #[.agg #[.slice F nf cf, .slice G ng cg]] w fun e w' => e = .returned (.tuple #[.string (strB (bytesL m)), .int .i64 (bytesE m)]) ∧ Below w.heap.size w w' := by
  obtain ⟨ob, hob⟩ : ∃ o, Obj.cells #[.slice F nf cf, .slice G ng cg] 25 (0, 0) = o := ⟨_, rfl⟩
  have hbA : Below w.heap.size w (w.alloc ob) := balloc (Below.refl _ w) ob
  have HC := Lib.hid (check_any m F G nf cf ng cg (w.alloc ob) hok hnf hng (hS.next hbA))
  have HBX := Lib.hid (show (w.alloc ob).heap[w.heap.size]? = some (.cells #[.slice F nf cf, .slice G ng cg] 25 (0, 0)) by rw [heap_alloc_new, hob])
  have HBA := Lib.hid hbA
  by_cases h0 : checkE m = 0
  · have hG := check_good hw h0
    have hlen := mdL_len hG
    have hl4 := mdL_four m
    have HM := Lib.hid (fun (U : World) (hU : Below w.heap.size w U) => module_put (w0 := w) (B := w.heap.size) (b := U.heap.size) (W := U.alloc (.cells #[.pointer none, .slice none 0 0] 47)) rfl
      ⟨fl_new U w.heap.size hU.size, Keep.refl _ _ _, by rw [World.size_alloc]; have := hU.size; omega⟩ (balloc hU _) hG hnf hng hS)
    rw [h0] at HC
    obtain ⟨z, hz⟩ : ∃ z, (mdL m).length = z := ⟨_, rfl⟩
    have HNE := Lib.hid (mdL_ne m)
    have z1 : (z : Int) ≤ 3000000 := by omega
    have HZ := Lib.hid hz
    by_cases hz2 : 65535 < z
    · have HE := Lib.hid (show bytesE m = 4 ∧ bytesL m = [] by unfold bytesL bytesE; rw [if_pos h0, hz, if_pos hz2]; exact ⟨rfl, rfl⟩)
      rw [HE.out.1, HE.out.2]
      have d1 : decide ((65535 : Int) < (z : Int)) = true := by simp; omega
      subst hob
      clear hok hw hnf hng hS hbA h0 hG hlen hl4 hz hz2
      go_enter Try.func8, Try.ntmps8
      go_wp2_with fail
      refine HC.out.mono ?_
      rintro e w1 ⟨rfl, hb⟩
      have hc := (hb.block w.heap.size (by rw [World.size_alloc]; omega)).trans HBX.out
      have k0 : (w1.alloc (.cells #[.pointer none, .slice none 0 0] 47)).cell? ⟨w.heap.size, 0, none⟩ = some (.slice F nf cf) := by rw [cell_alloc_old hc]; rfl
      have k1 : (w1.alloc (.cells #[.pointer none, .slice none 0 0] 47)).cell? ⟨w.heap.size, 1, none⟩ = some (.slice G ng cg) := by rw [cell_alloc_old hc]; rfl
      have HB := Lib.hid (bthen HBA.out hb)
      clear hb hc
      go_wp2_with fail
      refine (HM.out w1 HB.out).mono ?_
      rintro e w2 ⟨rfl, h2⟩
      have HL := Lib.hid h2
      have HN := Lib.hid (flen_any _ _ _ w2 h2.f)
      rw [HZ.out] at HN
      clear h2
      go_wp2_with fail
      refine HN.out.mono ?_
      rintro e w3 ⟨rfl, rfl⟩
      go_wp2_with fail
      go_ret2
      exact ⟨rfl, (balloc HB.out _).trans HL.out.k.below⟩
    · have HE := Lib.hid (show bytesE m = 0 ∧ bytesL m = mdL m by unfold bytesL bytesE; rw [if_pos h0, hz, if_neg hz2]; exact ⟨rfl, rfl⟩)
      rw [HE.out.1, HE.out.2]
      have d1 : decide ((65535 : Int) < (z : Int)) = false := by simp; omega
      subst hob
      clear hok hw hnf hng hS hbA h0 hG hlen hl4 hz hz2
      go_enter Try.func8, Try.ntmps8
      go_wp2_with fail
      refine HC.out.mono ?_
      rintro e w1 ⟨rfl, hb⟩
      have hc := (hb.block w.heap.size (by rw [World.size_alloc]; omega)).trans HBX.out
      have k0 : (w1.alloc (.cells #[.pointer none, .slice none 0 0] 47)).cell? ⟨w.heap.size, 0, none⟩ = some (.slice F nf cf) := by rw [cell_alloc_old hc]; rfl
      have k1 : (w1.alloc (.cells #[.pointer none, .slice none 0 0] 47)).cell? ⟨w.heap.size, 1, none⟩ = some (.slice G ng cg) := by rw [cell_alloc_old hc]; rfl
      have HB := Lib.hid (bthen HBA.out hb)
      clear hb hc
      go_wp2_with fail
      refine (HM.out w1 HB.out).mono ?_
      rintro e w2 ⟨rfl, h2⟩
      have HL := Lib.hid h2
      have HN := Lib.hid (flen_any _ _ _ w2 h2.f)
      rw [HZ.out] at HN
      clear h2
      go_wp2_with fail
      refine HN.out.mono ?_
      rintro e w3 ⟨rfl, rfl⟩
      go_wp2_with fail
      refine (fstringl_any _ _ _ _ HL.out.f HNE.out).mono ?_
      rintro e w4 ⟨rfl, h4⟩
      have H4 := Lib.hid ((balloc HB.out _).trans (HL.out.k.below.trans h4))
      clear h4
      go_wp2_with fail
      go_ret2
      exact ⟨rfl, H4.out⟩
  · have HE := Lib.hid (show bytesE m = checkE m ∧ bytesL m = [] by unfold bytesL bytesE; rw [if_neg h0, if_neg h0]; exact ⟨rfl, rfl⟩)
    rw [HE.out.1, HE.out.2]
    obtain ⟨q, hq⟩ : ∃ q, checkE m = q := ⟨_, rfl⟩
    rw [hq] at HC h0 ⊢
    have e1 : (q == 0) = false := by simpa using h0
    subst hob
    clear hok hw hnf hng hS hbA h0 hq
    go_enter Try.func8, Try.ntmps8
    go_wp2_with fail
    refine HC.out.mono ?_
    rintro e w1 ⟨rfl, hb⟩
    have HB := Lib.hid (bthen HBA.out hb)
    clear hb
    go_wp2_with fail
    go_ret2
    exact ⟨rfl, HB.out⟩
end Q
end Go.Proofs.Ytjldddpchiaalaa
