/- Package reach: small functions: what lacks in a map of names; among. -/
import Derived.Test.YtoglmdadpchhoaaR0
import Derived.Test.YtoglmdadpchhoaaOD
import Derived.Test.YtoglmdadpchhoaaHY3
namespace Go.Proofs.Ytoglmdadpchhoaa
open Go.RowKit Go.Shelf

/-- a set of names in memory -/
def SetAt (W : World) (b n : Nat) (l : List ByteArray) : Prop := W.ownsMap Try.prog 9 unitElem b n (setD l)
theorem SetAt.same {W U : World} {b n : Nat} {l : List ByteArray} (h : SetAt W b n l) (hs : U.heap[b]? = W.heap[b]?) : SetAt U b n l := map_same h (fun _ => hs)
theorem SetAt.lt {W : World} {b n : Nat} {l : List ByteArray} (h : SetAt W b n l) : b < W.heap.size := by
  obtain ⟨es, clock, he, -⟩ := h
  exact (Array.getElem?_eq_some_iff.1 he).1
theorem set_has (l : List ByteArray) (s : ByteArray) : Maps.has (setD l) (slit s) = decide (s ∈ l) := by
  rw [Bool.eq_iff_iff, setD_has, decide_eq_true_eq]
set_option maxRecDepth 100000 in
set_option maxHeartbeats 2000000 in
theorem lack_any (l : List ByteArray) (s : ByteArray) (b n : Nat) (w : World) (hs : s.size < 9223372036854775808) (hS : SetAt w b n l) :
    Calls Try.prog 42 #[.map (some b), .string s] w fun e w' => e = .returned (.bool (!decide (s ∈ l))) ∧ Below w.heap.size w w' := by
  have HK := Lib.hid (skey_of hs)
  have HM := Lib.hid (show w.ownsMap Try.prog 9 unitElem b n (setD l) from hS)
  have hhas := set_has l s
  obtain ⟨Q, hQ⟩ : ∃ Q, decide (s ∈ l) = Q := ⟨_, rfl⟩
  rw [hQ] at hhas ⊢
  clear hS hs hQ
  go_enter Try.func42, Try.ntmps42
  go_wp2_with (at_lookup; refine wpList_lookup_own_unit _ rfl _ _ 83 rfl 9 87 skeyed Try.underlying83 (Try.zeroValue87 _) b n _ rfl HM.out _ _ rfl HK.out ?_)
  go_ret
  exact ⟨rfl, balloc (Below.refl _ w) _⟩
end Go.Proofs.Ytoglmdadpchhoaa
