/- Package reach: the document's example, shown. -/
import Derived.Test.YtoglmdadpchhoaaRf
namespace Go.Proofs.Ytoglmdadpchhoaa
open Go.RowKit Go.Shelf

def sF : ByteArray := ⟨#[102]⟩
def sG : ByteArray := ⟨#[103]⟩
def sM : ByteArray := ⟨#[109, 97, 105, 110]⟩
def ex1 : Fn := funE sM 2 ⟨14, 0, 0, 0, sF, []⟩
def ex2 : Fn := funE sF 1 ⟨1, 0, 0, 0, ⟨#[]⟩, []⟩
def ex3 : Fn := funE sG 1 ⟨1, 0, 0, 0, ⟨#[]⟩, []⟩
def exM : Md := ⟨[ex1, ex2, ex3], []⟩
theorem exM_drop : dropE exM = ⟨[ex1, ex2], []⟩ := by
  have h : fromE exM (rootsE exM) = [sM, sF] := by decide +kernel
  unfold dropE
  rw [h]
  have h1 : decide (ex1.s ∈ [sM, sF]) = true := by decide +kernel
  have h2 : decide (ex2.s ∈ [sM, sF]) = true := by decide +kernel
  have h3 : decide (ex3.s ∈ [sM, sF]) = false := by decide +kernel
  simp only [exM, List.filter, h1, h2, h3]
theorem exM_deep : deepestE exM = [sF, sM, sG] := by decide +kernel
theorem funE_ok (s q : ByteArray) (b o : Int) (hs : s.size < 9223372036854775808) (hq : q.size < 9223372036854775808) : FnOk (funE s b ⟨o, 0, 0, 0, q, []⟩) :=
  ⟨hs, by simp [funE], fun x hx => by
    obtain rfl : x = ⟨0, [⟨o, 0, 0, 0, q, []⟩], ⟨3, 0, 0, [], 0, []⟩⟩ := by simpa [funE] using hx
    exact ⟨by simp, by simp, by simp, fun i hi => by
      obtain rfl : i = ⟨o, 0, 0, 0, q, []⟩ := by simpa using hi
      exact ⟨hq, by simp⟩⟩⟩
theorem exM_ok : MdOk exM := ⟨fun f hf => by
  have hf' : f = ex1 ∨ f = ex2 ∨ f = ex3 := by simpa [exM] using hf
  rcases hf' with rfl | rfl | rfl
  · exact funE_ok _ _ _ _ (by decide +kernel) (by decide +kernel)
  · exact funE_ok _ _ _ _ (by decide +kernel) (by decide +kernel)
  · exact funE_ok _ _ _ _ (by decide +kernel) (by decide +kernel), fun g hg => by simp [exM] at hg, by simp [exM], by simp [exM]⟩
theorem funE_few (s q : ByteArray) (b o : Int) : FnK 1048576 (funE s b ⟨o, 0, 0, 0, q, []⟩) :=
  ⟨by simp [funE], by simp [funE, insF], fun x hx => by
    obtain rfl : x = ⟨0, [⟨o, 0, 0, 0, q, []⟩], ⟨3, 0, 0, [], 0, []⟩⟩ := by simpa [funE] using hx
    exact ⟨by simp, by simp, by simp, fun i hi => by
      obtain rfl : i = ⟨o, 0, 0, 0, q, []⟩ := by simpa using hi
      simp [InK]⟩⟩
theorem exM_few : MdK 1048576 exM := ⟨by simp [exM], by simp [exM, ex1, ex2, ex3, funE, insF], fun f hf => by
  have hf' : f = ex1 ∨ f = ex2 ∨ f = ex3 := by simpa [exM] using hf
  rcases hf' with rfl | rfl | rfl <;> exact funE_few _ _ _ _⟩
set_option maxRecDepth 100000 in
set_option maxHeartbeats 8000000 in
theorem rshown11_any (w : World) : Calls Try.prog 17 #[] w fun e w' => e = .returned (.bool true) ∧ Below w.heap.size w w' := by
  have HD := Lib.hid (fun (U : World) (F : Option Addr) (cf : Nat) (hS : MdAt U (.slice F 3 cf) (.slice none 0 0) exM) => drop_any exM F none 3 cf 0 0 U exM_ok exM_few rfl rfl hS)
  have HP := Lib.hid (fun (U : World) (F : Option Addr) (cf : Nat) (hS : MdAt U (.slice F 3 cf) (.slice none 0 0) exM) => deepest_any exM F none 3 cf 0 0 U exM_ok exM_few rfl hS)
  rw [exM_drop] at HD
  rw [exM_deep] at HP
  go_enter Try.func17, Try.ntmps17
  go_wp2_with fail
  refine (fun_one sM 2 w).mono ?_
  rintro r w1 ⟨F1, rfl, hb1, hk1⟩
  have HM1 := Lib.hid hk1
  dsimp only [funE]
  have HB1 := Lib.hid hb1
  clear hk1 hb1
  go_wp2_with fail
  refine (fun_none sF 1 _).mono ?_
  rintro r w2 ⟨F2, rfl, hb2, hk2⟩
  have HM2 := Lib.hid hk2
  dsimp only [funE]
  have HB2 := Lib.hid hb2
  clear hk2 hb2
  go_wp2_with fail
  refine (fun_none sG 1 _).mono ?_
  rintro r w3 ⟨F3, rfl, hb3, hk3⟩
  have HM3 := Lib.hid hk3
  dsimp only [funE]
  have HB3 := Lib.hid hb3
  clear hk3 hb3
  go_wp2_with fail
  obtain ⟨o1, ho1⟩ : ∃ o, Obj.cells #[.string sM, .int .i64 2, .int .i64 0, .slice F1 1 1, .string sF, .int .i64 1, .int .i64 0, .slice F2 1 1, .string sG, .int .i64 1, .int .i64 0, .slice F3 1 1] 50 (0, 0) = o := ⟨_, rfl⟩
  obtain ⟨o2, ho2⟩ : ∃ o, Obj.cells #[.slice (some ⟨w3.heap.size, 0, none⟩) 3 3, .slice none 0 0] 25 (0, 0) = o := ⟨_, rfl⟩
  have k4 := balloc (Below.refl _ w3) o1
  have k5 := balloc (Below.refl _ (w3.alloc o1)) o2
  have h1 : ((w3.alloc o1).alloc o2).heap[w3.heap.size]? = some o1 := (k5.block _ (by simp)).trans (heap_alloc_new w3 o1)
  have h2 : ((w3.alloc o1).alloc o2).heap[w3.heap.size + 1]? = some o2 := by
    have e := heap_alloc_new (w3.alloc o1) o2
    rwa [World.size_alloc] at e
  have n1 : Blocks ((w3.alloc o1).alloc o2) (.slice F1 1 1) ex1.l := (((HM1.out.next HB2.out).next HB3.out).next k4).next k5
  have n2 : Blocks ((w3.alloc o1).alloc o2) (.slice F2 1 1) ex2.l := ((HM2.out.next HB3.out).next k4).next k5
  have n3 : Blocks ((w3.alloc o1).alloc o2) (.slice F3 1 1) ex3.l := (HM3.out.next k4).next k5
  have HB5 := Lib.hid (show Below w.heap.size w ((w3.alloc o1).alloc o2) from bthen (bthen (bthen (bthen HB1.out HB2.out) HB3.out) k4) k5)
  subst ho1 ho2
  have HS5 := Lib.hid (show MdAt ((w3.alloc (.cells #[.string sM, .int .i64 2, .int .i64 0, .slice F1 1 1, .string sF, .int .i64 1, .int .i64 0, .slice F2 1 1, .string sG, .int .i64 1, .int .i64 0, .slice F3 1 1] 50)).alloc (.cells #[.slice (some ⟨w3.heap.size, 0, none⟩) 3 3, .slice none 0 0] 25)) (.slice (some ⟨w3.heap.size, 0, none⟩) 3 3) (.slice none 0 0) exM from by
    refine ⟨.inr ⟨by simp [exM], w3.heap.size, 0, 3, rfl, (Array.getElem?_eq_some_iff.1 h1).1, fun i hi => ?_⟩, .inl ⟨rfl, .inl rfl⟩⟩
    have hi3 : i < 3 := hi
    have : i = 0 ∨ i = 1 ∨ i = 2 := by omega
    rcases this with rfl | rfl | rfl
    · exact ⟨Lib.cell_of_heap h1 0, Lib.cell_of_heap h1 1, Lib.cell_of_heap h1 2, F1, 1, Lib.cell_of_heap h1 3, n1⟩
    · exact ⟨Lib.cell_of_heap h1 4, Lib.cell_of_heap h1 5, Lib.cell_of_heap h1 6, F2, 1, Lib.cell_of_heap h1 7, n2⟩
    · exact ⟨Lib.cell_of_heap h1 8, Lib.cell_of_heap h1 9, Lib.cell_of_heap h1 10, F3, 1, Lib.cell_of_heap h1 11, n3⟩)
  have HH2 := Lib.hid h2
  have HLT := Lib.hid (Array.getElem?_eq_some_iff.1 h2).1
  clear h1 h2 k4 k5 n1 n2 n3
  refine (HD.out _ _ _ HS5.out).mono ?_
  obtain ⟨W5, hW5⟩ : ∃ X, ((w3.alloc (.cells #[.string sM, .int .i64 2, .int .i64 0, .slice F1 1 1, .string sF, .int .i64 1, .int .i64 0, .slice F2 1 1, .string sG, .int .i64 1, .int .i64 0, .slice F3 1 1] 50)).alloc (.cells #[.slice (some ⟨w3.heap.size, 0, none⟩) 3 3, .slice none 0 0] 25)) = X := ⟨_, rfl⟩
  rw [hW5] at HS5 HH2 HB5 HLT
  rintro r w6 ⟨F6, c6, G6, d6, rfl, hb6, hm6⟩
  have hb6' : Below W5.heap.size W5 w6 := by rw [← hW5]; exact hb6
  have HS6 := Lib.hid (HS5.out.next hb6')
  have HH6 := Lib.hid ((hb6'.block _ HLT.out).trans HH2.out)
  have HB6 := Lib.hid (bthen HB5.out hb6')
  have HM6 := Lib.hid hm6
  have hl2 : ([ex1, ex2] : List Fn).length = 2 := rfl
  have hl0 : ([] : List Gl).length = 0 := rfl
  simp only [hl2, hl0] at HM6 ⊢
  have k7 := balloc (Below.refl _ w6) (.cells #[.slice F6 2 c6, .slice G6 0 d6] 25)
  have HS7 := Lib.hid (HS6.out.next k7)
  have lt6 := (Array.getElem?_eq_some_iff.1 HH6.out).1
  have h7 := (k7.block _ lt6).trans HH6.out
  have e0 : (w6.alloc (.cells #[.slice F6 2 c6, .slice G6 0 d6] 25)).cell? ⟨w3.heap.size + 1, 0, none⟩ = some (.slice (some ⟨w3.heap.size, 0, none⟩) 3 3) := Lib.cell_of_heap h7 0
  have e1 : (w6.alloc (.cells #[.slice F6 2 c6, .slice G6 0 d6] 25)).cell? ⟨w3.heap.size + 1, 1, none⟩ = some (.slice none 0 0) := Lib.cell_of_heap h7 1
  have HM7 := Lib.hid (HM6.out.next k7)
  have HB7 := Lib.hid (bthen HB6.out k7)
  have HH7 := Lib.hid (heap_alloc_new w6 (.cells #[.slice F6 2 c6, .slice G6 0 d6] 25))
  clear hb6 hb6' hm6 HD hW5 k7 h7 lt6
  go_wp2_with fail
  refine (HP.out _ _ _ HS7.out).mono ?_
  obtain ⟨W7, hW7⟩ : ∃ X, (w6.alloc (.cells #[.slice F6 2 c6, .slice G6 0 d6] 25)) = X := ⟨_, rfl⟩
  rw [hW7] at HB7 HM7 HH7 HS7
  rintro r w8 ⟨L8, c8, rfl, hb8, ho8⟩
  rw [hW7] at hb8
  have hl3 : ([sF, sM, sG] : List ByteArray).length = 3 := rfl
  simp only [hl3] at ho8 ⊢
  have h8 := (hb8.block _ (Array.getElem?_eq_some_iff.1 HH7.out).1).trans HH7.out
  have a0 : w8.cell? ⟨w6.heap.size, 0, none⟩ = some (.slice F6 2 c6) := Lib.cell_of_heap h8 0
  obtain ⟨B6, O6, hF6, -, f0, -⟩ := RowOf.at_ (HM7.out.next hb8).1 (i := 1) (by decide)
  subst hF6
  have f0' : w8.cell? ⟨B6, O6 + 4, none⟩ = some (.string sF) := by
    rw [show O6 + 4 = O6 + 1 * 4 by omega]
    exact f0
  have hs8 := ho8.strs
  obtain ⟨B8, O8, hL8, -, g0⟩ := RowOf.at_ hs8 (i := 0) (by decide)
  subst hL8
  obtain ⟨B8', O8', hL8', -, g1⟩ := RowOf.at_ hs8 (i := 1) (by decide)
  obtain ⟨rfl, rfl⟩ : B8 = B8' ∧ O8 = O8' := by simpa using hL8'
  obtain ⟨B8'', O8'', hL8'', -, g2⟩ := RowOf.at_ hs8 (i := 2) (by decide)
  obtain ⟨rfl, rfl⟩ : B8 = B8'' ∧ O8 = O8'' := by simpa using hL8''
  have g0' : w8.cell? ⟨B8, O8, none⟩ = some (.string sF) := by simpa using g0
  have g1' : w8.cell? ⟨B8, O8 + 1, none⟩ = some (.string sM) := by simpa using g1
  have g2' : w8.cell? ⟨B8, O8 + 2, none⟩ = some (.string sG) := by simpa using g2
  have HB8 := Lib.hid (bthen HB7.out hb8)
  have q0 : (sF.toList == [102]) = true := by decide +kernel
  have q1 : (sM.toList == [109, 97, 105, 110]) = true := by decide +kernel
  have q2 : (sG.toList == [103]) = true := by decide +kernel
  clear hb8 ho8 hs8 h8 f0 g0 g1 g2 hW7 HP HM7 HH7 HS7 e0 e1 HS6 HH6 HM6 HS5 HH2 hL8' hL8''
  go_wp2_with fail
  go_ret
  exact ⟨rfl, HB8.out⟩
end Go.Proofs.Ytoglmdadpchhoaa
