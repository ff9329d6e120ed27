/- Package bit: what was written is taken as it was, what is taken was written so: pure. -/
import Derived.Test.YtjldddpchiaalaaU0
namespace Go.Proofs.Ytjldddpchiaalaa
open Go.RowKit
namespace Q

theorem wide_num {v : Nat} (h : v < 18446744073709551616) (more : List UInt8) : wideR (numL v ++ more, 0) = (v, more, 0) := by
  unfold wideR
  rw [if_pos rfl, take_num v _ h]
theorem bet_num {lo hi : Nat} {e : Int} {v : Nat} (h1 : lo ≤ v) (h2 : v ≤ hi) (h3 : hi ≤ 4294967295) (more : List UInt8) : betweenR lo hi e (numL v ++ more, 0) = (v, more, 0) := by
  unfold betweenR betF betW
  rw [wide_num (by omega)]
  simp only
  rw [if_neg (show ¬ 4294967295 < v by omega), if_neg (show ¬ (v < lo ∨ hi < v) by omega), if_pos rfl]
theorem num_rt {x : Int} (h : NN x) (more : List UInt8) : numR (nL x ++ more, 0) = (x.toNat, more, 0) := bet_num (Nat.zero_le _) (by have := h.2; omega) (Nat.le_refl _) more
theorem int_rt {x : Int} (h : NN x) (more : List UInt8) : intR (nL x ++ more, 0) = (x, more, 0) := by
  unfold intR
  rw [num_rt h]
  simp only
  rw [Int.toNat_of_nonneg h.1]
theorem size_data (s : ByteArray) : s.data.toList.length = s.size := by simp
theorem str_rt (s : ByteArray) : strB s.data.toList = s := by
  obtain ⟨s⟩ := s
  rfl
theorem text_rt {s : ByteArray} (h : s.size ≤ 16) (more : List UInt8) : textR (txL s ++ more, 0) = (s.data.toList, more, 0) := by
  unfold textR txL textF
  rw [List.append_assoc, bet_num (Nat.zero_le _) h (by omega)]
  have hl := size_data s
  simp only
  rw [if_neg (by rw [List.length_append]; omega), ← hl, List.take_left, List.drop_left]
theorem times_rt {α : Type} {take : St → α × St} {p : α → List UInt8} : ∀ (l : List α) (more : List UInt8), (∀ x ∈ l, ∀ more, take (p x ++ more, 0) = (x, more, 0)) → timesR take l.length (l.flatMap p ++ more, 0) = (l, more, 0)
  | [], more, _ => rfl
  | x :: l, more, h => by
    rw [List.length_cons, timesR, List.flatMap_cons, List.append_assoc, h x (by simp), times_rt l more (fun y hy => h y (by simp [hy]))]
theorem row_rt {α : Type} {most : Nat} {take : St → α × St} {p : α → List UInt8} {l : List α} (hm : l.length ≤ most) (h4 : most ≤ 4294967295) (h : ∀ x ∈ l, ∀ more, take (p x ++ more, 0) = (x, more, 0)) (more : List UInt8) :
    rowR most take (rowL p l ++ more, 0) = (l, more, 0) := by
  unfold rowR rowL
  rw [List.append_assoc, bet_num (Nat.zero_le _) hm h4]
  exact times_rt l more h
theorem vals_rt {l : List Int} (hl : l.length ≤ 6) (h : ∀ v ∈ l, NN v) (more : List UInt8) : valsR (rowL nL l ++ more, 0) = (l, more, 0) := row_rt hl (by omega) (fun x hx more => int_rt (h x hx) more) more
theorem wide_rt {k : Int} (h : 0 ≤ k ∧ k ≤ 18446744073709551615) (more : List UInt8) : wideR (nL k ++ more, 0) = (k.toNat, more, 0) := wide_num (by omega) more
theorem sameI_eq {x y : In} (h : sameI x y = true) : x = y := by
  obtain ⟨o, a, b, k, s, l⟩ := x
  obtain ⟨o', a', b', k', s', l'⟩ := y
  unfold sameI at h
  simp only [Bool.and_eq_true, beq_iff_eq, decide_eq_true_eq, jba_beq] at h
  obtain ⟨⟨⟨⟨⟨rfl, rfl⟩, rfl⟩, rfl⟩, rfl⟩, rfl⟩ := h
  rfl
theorem cast_nat {x : Int} (h : 0 ≤ x) : ((x.toNat : Nat) : Int) = x := Int.toNat_of_nonneg h
theorem inst_rt {i : In} (h : InN i) (ho : 1 ≤ i.o ∧ i.o ≤ 16) (hs : i = askedI i) (more : List UInt8) : instR (inL i ++ more, 0) = (i, more, 0) := by
  obtain ⟨o, a, b, k, s, l⟩ := i
  obtain ⟨hO, hA, hB, hK, hS, hl, hv⟩ := h
  simp only at hO hA hB hK hS hl hv ho
  obtain ⟨n, rfl⟩ : ∃ n : Nat, o = n := ⟨o.toNat, by omega⟩
  unfold instR inL
  simp only
  rw [List.append_assoc, show nL (n : Int) = numL n by simp [nL], bet_num (by omega) (by omega) (by omega)]
  simp only
  unfold askedI at hs
  simp only [In.mk.injEq] at hs
  obtain ⟨-, ha, hb, hk, hs, hl'⟩ := hs
  unfold insR inT
  by_cases h1 : n = 1
  · subst h1
    rw [if_pos rfl, if_pos (by rfl), wide_rt hK]
    simp [aB, bB, hasB] at ha hb hs hl'
    subst ha hb hs hl'
    simp only
    rw [cast_nat hK.1]

  · rw [if_neg h1, if_neg (show ¬ ((n : Int) = 1) by omega)]
    rw [if_neg (show ¬ ((n : Int) = 1) by omega)] at hk
    subst hk
    by_cases h2 : 2 ≤ n ∧ n ≤ 11
    · have q1 : ¬ ((n : Int) = 14) := by omega
      have q2 : hasB (n : Int) = false := by unfold hasB; simp; omega
      rw [q2] at hs
      rw [if_neg q1] at hl'
      rw [if_neg (by decide)] at hs
      subst hs hl'
      rw [if_pos h2, if_pos (show 2 ≤ (n : Int) ∧ (n : Int) ≤ 11 by omega), List.append_assoc, num_rt hA]
      simp only
      rw [num_rt hB]
      simp only
      rw [cast_nat hA.1, cast_nat hB.1]
    · have q3 : bB (n : Int) = false := by unfold bB; simp; omega
      rw [q3, if_neg (by decide)] at hb
      subst hb
      rw [if_neg h2, if_neg (show ¬ (2 ≤ (n : Int) ∧ (n : Int) ≤ 11) by omega)]
      by_cases h12 : n = 12
      · subst h12
        simp [aB] at ha hl'
        subst ha hl'
        rw [if_pos rfl, if_pos (by rfl), text_rt hS]
        simp only
        rw [str_rt]
      · rw [if_neg h12, if_neg (show ¬ ((n : Int) = 12) by omega)]
        by_cases h13 : n = 13
        · subst h13
          simp at hl'
          subst hl'
          rw [if_pos rfl, if_pos (by rfl), List.append_assoc, num_rt hA]
          simp only
          rw [text_rt hS]
          simp only
          rw [str_rt, cast_nat hA.1]
        · rw [if_neg h13, if_neg (show ¬ ((n : Int) = 13) by omega)]
          by_cases h14 : n = 14
          · subst h14
            simp [aB] at ha
            subst ha
            rw [if_pos rfl, if_pos (by rfl), List.append_assoc, text_rt hS]
            simp only
            rw [vals_rt hl hv]
            simp only
            rw [str_rt]
          · have q4 : hasB (n : Int) = false := by unfold hasB; simp; omega
            rw [q4, if_neg (by decide)] at hs
            rw [if_neg (show ¬ ((n : Int) = 14) by omega)] at hl'
            subst hs hl'
            rw [if_neg h14, if_neg (show ¬ ((n : Int) = 14) by omega)]
            by_cases h16 : n = 16
            · subst h16
              rw [if_pos rfl, if_pos (by rfl), num_rt hA]
              simp only
              rw [cast_nat hA.1]
            · have q5 : aB (n : Int) = false := by unfold aB; simp; omega
              rw [q5, if_neg (by decide)] at ha
              subst ha
              rw [if_neg h16, if_neg (show ¬ ((n : Int) = 16) by omega), List.nil_append]
theorem end_rt {t : Tm} (h : TmN t) (ht : (t.k = 1 ∧ t.a = 0 ∧ t.e = 0 ∧ t.m = []) ∨ t.k = 2 ∨ (t.k = 3 ∧ t.t = 0 ∧ t.l = [] ∧ t.e = 0 ∧ t.m = [])) (more : List UInt8) : endR (tmL t ++ more, 0) = (t, more, 0) := by
  obtain ⟨k, a, x, l, e, m⟩ := t
  obtain ⟨hK, hA, hT, ⟨hl, hv⟩, hE, hm, hv2⟩ := h
  simp only at hK hA hT hl hv hE hm hv2 ht
  unfold endR tmL
  simp only
  have hk3 : 1 ≤ k ∧ k ≤ 3 := by omega
  rw [List.append_assoc, show nL k = numL k.toNat from rfl, bet_num (by omega) (by omega) (by omega)]
  simp only
  unfold endsR tmT
  rcases ht with ⟨rfl, rfl, rfl, rfl⟩ | rfl | ⟨rfl, rfl, rfl, rfl, rfl⟩
  · rw [if_pos (by rfl), if_pos (by rfl), List.append_assoc, num_rt hT]
    simp only
    rw [vals_rt hl hv]
    simp only
    rw [cast_nat hT.1]
    rfl
  · rw [if_neg (by decide), if_pos (by rfl), if_neg (by simp), if_pos (by rfl)]
    simp only [List.append_assoc]
    rw [num_rt hA]
    simp only
    rw [num_rt hT]
    simp only
    rw [vals_rt hl hv]
    simp only
    rw [num_rt hE]
    simp only
    rw [vals_rt hm hv2]
    simp only
    rw [cast_nat hT.1, cast_nat hA.1, cast_nat hE.1]
    rfl
  · rw [if_neg (by decide), if_neg (by decide), if_pos (by rfl), if_neg (by simp), if_neg (by simp), if_pos (by rfl), num_rt hA]
    simp only
    rw [cast_nat hA.1]
    rfl
/-- a block, a function, a global that is taken as it was -/
def InG (i : In) : Prop := InN i ∧ (1 ≤ i.o ∧ i.o ≤ 16) ∧ i = askedI i
def TmG (t : Tm) : Prop := TmN t ∧ ((t.k = 1 ∧ t.a = 0 ∧ t.e = 0 ∧ t.m = []) ∨ t.k = 2 ∨ (t.k = 3 ∧ t.t = 0 ∧ t.l = [] ∧ t.e = 0 ∧ t.m = []))
def BkG (b : Bk) : Prop := NN b.p ∧ (b.i.length ≤ 32 ∧ ∀ i ∈ b.i, InG i) ∧ TmG b.e
def FnG (f : Fn) : Prop := f.s.size ≤ 16 ∧ NN f.b ∧ NN f.p ∧ f.l.length ≤ 16 ∧ ∀ b ∈ f.l, BkG b
def MdG (m : Md) : Prop := (m.f.length ≤ 16 ∧ ∀ f ∈ m.f, FnG f) ∧ (m.g.length ≤ 16 ∧ ∀ g ∈ m.g, GlN g)
theorem block_rt {b : Bk} (h : BkG b) (more : List UInt8) : blockR (bkL b ++ more, 0) = (b, more, 0) := by
  obtain ⟨p, i, e⟩ := b
  obtain ⟨hP, ⟨hl, hi⟩, he⟩ := h
  simp only at hP hl hi he
  unfold blockR bkL
  simp only [List.append_assoc]
  rw [num_rt hP]
  simp only
  rw [row_rt hl (by omega) (fun x hx more => inst_rt (hi x hx).1 (hi x hx).2.1 (hi x hx).2.2 more)]
  simp only
  rw [end_rt he.1 he.2]
  simp only
  rw [cast_nat hP.1]
theorem func_rt {f : Fn} (h : FnG f) (more : List UInt8) : funcR (fnL f ++ more, 0) = (f, more, 0) := by
  obtain ⟨s, b, p, l⟩ := f
  obtain ⟨hS, hB, hP, hl, hb⟩ := h
  simp only at hS hB hP hl hb
  unfold funcR fnL
  simp only [List.append_assoc]
  rw [text_rt hS]
  simp only
  rw [num_rt hB]
  simp only
  rw [num_rt hP]
  simp only
  rw [row_rt hl (by omega) (fun x hx more => block_rt (hb x hx) more)]
  simp only
  rw [str_rt, cast_nat hB.1, cast_nat hP.1]
theorem glob_rt {g : Gl} (h : GlN g) (more : List UInt8) : globR (glL g ++ more, 0) = (g, more, 0) := by
  obtain ⟨s, b, h', i⟩ := g
  obtain ⟨hS, hB, hI⟩ := h
  simp only at hS hB hI
  unfold globR glL
  simp only [List.append_assoc]
  rw [text_rt hS]
  simp only
  rw [num_rt hB]
  simp only
  rw [bet_num (Nat.zero_le _) (by unfold hereN; split <;> omega) (by omega)]
  simp only
  rw [wide_rt hI]
  simp only
  rw [str_rt, cast_nat hB.1, cast_nat hI.1]
  cases h' <;> rfl
theorem mod_rt {m : Md} (h : MdG m) (more : List UInt8) : modR (rowL fnL m.f ++ (rowL glL m.g ++ more), 0) = (m, more, 0) := by
  obtain ⟨f, g⟩ := m
  obtain ⟨⟨hl, hf⟩, hl2, hg⟩ := h
  unfold modR
  simp only at hl hf hl2 hg ⊢
  rw [row_rt hl (by omega) (fun x hx more => func_rt (hf x hx) more)]
  simp only
  rw [row_rt hl2 (by omega) (fun x hx more => glob_rt (hg x hx) more)]
end Q
end Go.Proofs.Ytjldddpchiaalaa
