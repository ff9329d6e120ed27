/- Package reach: deepFirst. -/
import Derived.Test.YtoglmdadpchhoaaR4
namespace Go.Proofs.Ytoglmdadpchhoaa
open Go.RowKit Go.Shelf

theorem store_func {P : Program} {w : World} {a : Addr} {m : Mode} (fn : Go.Fn) (first captured : Array Value) : (store a (.func fn first captured) m).run P w = stored P w a (.func fn first captured) m := run_store P w a _ m rfl
attribute [local go_sem] store_func
theorem first_new (w0 : World) (lv : Value) (U : List ByteArray) : ∀ W5, W5 = ((((w0.alloc (.cells #[lv] 98)).alloc (.cells #[.slice none 0 0] 45)).alloc (.map #[] 0)).alloc (.cells #[.map (some (w0.heap.size + 1 + 1))] 82)).alloc (.cells #[.nilFunc] 123) →
    W5.cell? ⟨w0.heap.size + 4, 0, none⟩ = some .nilFunc ∧ W5.frozen? ⟨w0.heap.size + 4, 0, none⟩ = false ∧
      VSt w0 U lv 0 ([], []) (.slice none 0 0) (W5.setCell ⟨w0.heap.size + 4, 0, none⟩ (.func (.func 80) #[] #[.pointer (some ⟨w0.heap.size + 3, 0, none⟩), .pointer (some ⟨w0.heap.size, 0, none⟩), .pointer (some ⟨w0.heap.size + 4, 0, none⟩), .pointer (some ⟨w0.heap.size + 1, 0, none⟩)])) := by
  intro W5 hW
  obtain ⟨w1, h1⟩ : ∃ X, w0.alloc (.cells #[lv] 98) = X := ⟨_, rfl⟩
  have s1 : w1.heap.size = w0.heap.size + 1 := by rw [← h1]; simp
  have n1 : Whole w1 w0.heap.size 98 #[lv] := by rw [← h1]; exact heap_alloc_new w0 _
  have b1 : Below w0.heap.size w0 w1 := by rw [← h1]; exact balloc (Below.refl _ _) _
  rw [h1] at hW
  obtain ⟨w2, h2⟩ : ∃ X, w1.alloc (.cells #[.slice none 0 0] 45) = X := ⟨_, rfl⟩
  have s2 : w2.heap.size = w0.heap.size + 2 := by rw [← h2, World.size_alloc, s1]
  have n2 : Whole w2 (w0.heap.size + 1) 45 #[.slice none 0 0] := by rw [← h2, ← s1]; exact heap_alloc_new w1 _
  have b2 : Below w1.heap.size w1 w2 := by rw [← h2]; exact balloc (Below.refl _ _) _
  rw [h2] at hW
  obtain ⟨w3, h3⟩ : ∃ X, w2.alloc (.map #[] 0) = X := ⟨_, rfl⟩
  have s3 : w3.heap.size = w0.heap.size + 3 := by rw [← h3, World.size_alloc, s2]
  have n3 : SetAt w3 (w0.heap.size + 2) 0 [] := by rw [← h3, ← s2]; exact World.ownsMap_made (H := Unit) w2 Try.prog 9 unitElem
  have b3 : Below w2.heap.size w2 w3 := by rw [← h3]; exact balloc (Below.refl _ _) _
  rw [h3] at hW
  obtain ⟨w4, h4⟩ : ∃ X, w3.alloc (.cells #[.map (some (w0.heap.size + 1 + 1))] 82) = X := ⟨_, rfl⟩
  have s4 : w4.heap.size = w0.heap.size + 4 := by rw [← h4, World.size_alloc, s3]
  have n4 : Whole w4 (w0.heap.size + 3) 82 #[.map (some (w0.heap.size + 2))] := by rw [← h4, ← s3]; exact heap_alloc_new w3 _
  have b4 : Below w3.heap.size w3 w4 := by rw [← h4]; exact balloc (Below.refl _ _) _
  rw [h4] at hW
  have s5 : W5.heap.size = w0.heap.size + 5 := by rw [hW, World.size_alloc, s4]
  have n5 : Whole W5 (w0.heap.size + 4) 123 #[.nilFunc] := by rw [hW, ← s4]; exact heap_alloc_new w4 _
  have b5 : Below w4.heap.size w4 W5 := by rw [hW]; exact balloc (Below.refl _ _) _
  have e1 : Below w1.heap.size w1 W5 := bthen (bthen (bthen b2 b3) b4) b5
  have e2 : Below w2.heap.size w2 W5 := bthen (bthen b3 b4) b5
  have e3 : Below w3.heap.size w3 W5 := bthen b4 b5
  have bk : ∀ b, b < w0.heap.size + 4 → ∀ u, (W5.setCell ⟨w0.heap.size + 4, 0, none⟩ u).heap[b]? = W5.heap[b]? := fun b hb u => Below.heap_setCell _ _ _ _ (by simp; omega)
  refine ⟨n5.cell 0, n5.free 0, ⟨?_, ?_, OwnsN.nil _ _, ?_, ?_, ?_, ?_, ?_, ?_, Nat.le_refl _⟩⟩
  · exact (World.cell?_of_block (bk w0.heap.size (by omega) _)).trans ((cellNext n1.lt e1 0).trans (n1.cell 0))
  · exact (bk _ (by omega) _).trans (n2.next e2)
  · exact SetAt.same (W := w3) n3 ((bk _ (by omega) _).trans (e3.block _ (by omega)))
  · exact (World.cell?_of_block (bk (w0.heap.size + 3) (by omega) _)).trans ((cellNext n4.lt b5 0).trans (n4.cell 0))
  · exact (n5.put 0 _).cell 0
  · exact below_setc (bthen b1 e1) (by simp)
  · simp only [World.size_setCell]; omega
  · show 0 + leftE U [] ≤ U.length
    rw [Nat.zero_add]
    exact List.countP_le_length
set_option maxRecDepth 100000 in
set_option maxHeartbeats 16000000 in
theorem deepFirst_any (L : List ByteArray) (A : Option Addr) (n c : Nat) (w0 : World) (U : List ByteArray) (Lf : ByteArray → List ByteArray) (gl : FuncId) (bd caps : Array Value) (hn : L.length = n) (hn9 : n ≤ 2097152) (hS : Strs w0 (.slice A n c) L) (hLU : ∀ x ∈ L, x ∈ U)
    (hU : ∀ x ∈ U, ∀ y ∈ Lf x, y ∈ U) (hk9 : ∀ x ∈ U, x.size < 9223372036854775808) (hU9 : U.length ≤ 2097152) (hL9 : ∀ x ∈ U, (Lf x).length ≤ 2097152)
    (hcf : ∀ args W, (callFunc gl args).run Try.prog W = .ok (.enter gl args) W)
    (hC : ∀ x ∈ U, ∀ W, Below w0.heap.size w0 W → w0.heap.size + 5 ≤ W.heap.size → Calls Try.prog gl (bd ++ #[.string x] ++ caps) W (MadeN (Lf x) W)) :
    Calls Try.prog 51 #[.slice A n c, .func (.func gl) bd caps] w0 (MadeN (deepE Lf U.length L ([], [])).2 w0) := by
  have HVI := Lib.hid (visit_any w0 U Lf gl bd caps hU hk9 hU9 hL9 hcf hC)
  have HS := Lib.hid hS
  have HN := Lib.hid (show L.length ≤ n ∧ n ≤ L.length by omega)
  have HLU := Lib.hid hLU
  have HSB := Lib.hid (fun (i : Nat) => show leftE U (deepE Lf U.length (L.take i) ([], [])).1 ≤ U.length from List.countP_le_length)
  have HTK := Lib.hid (fun (i : Nat) (hi : i < L.length) => deepE_take Lf U.length hi ([], []))
  have n1 : (n : Int) ≤ 2097152 := by omega
  have hmm := @run_makeMap Try.prog
  clear hS hn hn9 hLU hU hk9 hU9 hL9 hcf hC
  go_enter Try.func51, Try.ntmps51
  have HLV := Lib.hid (first_new w0 (.func (.func gl) bd caps) U _ rfl)
  obtain ⟨W5, hW5⟩ : ∃ X, ((((w0.alloc (.cells #[.func (.func gl) bd caps] 98)).alloc (.cells #[.slice none 0 0] 45)).alloc (.map #[] 0)).alloc (.cells #[.map (some (w0.heap.size + 1 + 1))] 82)).alloc (.cells #[.nilFunc] 123) = X := ⟨_, rfl⟩
  rw [hW5] at HLV
  have z4 : W5.cell? ⟨w0.heap.size + 1 + 1 + 1 + 1, 0, none⟩ = some .nilFunc := HLV.out.1
  have f4 : W5.frozen? ⟨w0.heap.size + 1 + 1 + 1 + 1, 0, none⟩ = false := HLV.out.2.1
  obtain ⟨W6, hW6⟩ : ∃ X, W5.setCell ⟨w0.heap.size + 1 + 1 + 1 + 1, 0, none⟩ (.func (.func 80) #[] #[.pointer (some ⟨w0.heap.size + 1 + 1 + 1, 0, none⟩), .pointer (some ⟨w0.heap.size, 0, none⟩), .pointer (some ⟨w0.heap.size + 1 + 1 + 1 + 1, 0, none⟩), .pointer (some ⟨w0.heap.size + 1, 0, none⟩)]) = X := ⟨_, rfl⟩
  have HST := Lib.hid (show VSt w0 U (.func (.func gl) bd caps) 0 ([], []) (.slice none 0 0) W6 by rw [← hW6]; exact HLV.out.2.2)
  clear HLV
  go_wp2_with fail
  clear hmm z4 f4 hW5 hW6
  go_loopw [14] (fun iv wr => ∃ (i : Nat) (v' : Value), i ≤ n ∧ iv = .int .i64 i ∧ VSt w0 U (.func (.func gl) bd caps) 0 (deepE Lf U.length (L.take i) ([], [])) v' wr) (fun iv _ => n - (intOf iv).toNat)
  case atStart => exact ⟨0, _, Nat.zero_le _, rfl, HST.out⟩
  case round =>
    obtain ⟨i, v', hi, rfl, hst⟩ := hrel
    have HSTI := Lib.hid hst
    have HSBI := Lib.hid (HSB.out i)
    have HTKI := Lib.hid (HTK.out i)
    obtain ⟨t, ht⟩ : ∃ t, deepE Lf U.length (L.take i) ([], []) = t := ⟨_, rfl⟩
    rw [ht] at HSTI HSBI
    simp only [ht] at HTKI
    have HTE := Lib.hid ht
    clear hst ht HST
    by_cases hlt : i < n
    · have hml : i < L.length := by have := HN.out; omega
      obtain ⟨b1, off, hA, hbl, e0⟩ := RowOf.at_ (HS.out.next HSTI.out.hw) hml
      subst hA
      simp only [Nat.mul_one] at e0
      have HCI := Lib.hid (HVI.out U.length L[i] 0 t v' wr (HLU.out _ (List.getElem_mem hml)) HSBI.out HSTI.out)
      rw [← HTKI.out hml] at HCI
      obtain ⟨x, hx⟩ : ∃ x, L[i] = x := ⟨_, rfl⟩
      rw [hx] at e0 HCI
      have q0 : (0 : Int) ≤ (i : Int) := Int.natCast_nonneg _
      have q1 : (i : Int) < (n : Int) := by omega
      have e4 : wr.cell? ⟨w0.heap.size + 1 + 1 + 1 + 1, 0, none⟩ = some (.func (.func 80) #[] #[.pointer (some ⟨w0.heap.size + 3, 0, none⟩), .pointer (some ⟨w0.heap.size, 0, none⟩), .pointer (some ⟨w0.heap.size + 4, 0, none⟩), .pointer (some ⟨w0.heap.size + 1, 0, none⟩)]) := HSTI.out.hv
      have HLT := Lib.hid hlt
      clear hx hml hlt hbl
      go_wp2_with fail
      refine Calls.mono HCI.out ?_
      rintro r w5 ⟨rfl, v5, hst5, -⟩
      have HST5 := Lib.hid hst5
      clear hst5 e4 e0
      go_wp2_with fail
      go_roundw
      case rel => exact ⟨i + 1, v5, HLT.out, by go_num, HST5.out⟩
      case measure => have := HLT.out; simp [intOf]; omega
    · have hd : decide ((i : Int) < (n : Int)) = false := by simp; omega
      have HE := Lib.hid (show deepE Lf U.length L ([], []) = t by rw [← HTE.out, List.take_of_length_le (by have := HN.out; omega)])
      obtain ⟨A7, z7, hv7⟩ := HSTI.out.hr.form
      obtain ⟨nL, hnL⟩ : ∃ q, t.2.length = q := ⟨_, rfl⟩
      rw [hnL] at hv7
      subst hv7
      have HNL := Lib.hid hnL
      have e1 := HSTI.out.ho.cell 0
      simp only [List.getElem?_toArray, List.getElem?_cons_zero] at e1
      clear hnL
      go_wp2_with fail
      go_ret
      refine ⟨A7, z7, by rw [HE.out, HNL.out]; rfl, HSTI.out.hw, ?_⟩
      rw [HE.out, HNL.out]
      exact HSTI.out.hr.thin (by omega)
end Go.Proofs.Ytoglmdadpchhoaa
