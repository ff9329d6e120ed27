/- Package ir: which modules are the same? -/
import Derived.Test.YtcfniagmnkngfaaBL
import Derived.BigQuiet
namespace Go.Proofs.Ytcfniagmnkngfaa
open Go.RowKit

def listB {α : Type} (p : α → α → Bool) (a b : List α) : Bool := (a.length == b.length) && (a.zip b).all (fun x => p x.1 x.2)
def sameT (t u : Tm) : Bool := t.k == u.k && t.a == u.a && t.t == u.t && decide (t.l = u.l) && t.e == u.e && decide (t.m = u.m)
def sameB (x y : Bk) : Bool := x.p == y.p && listB sameI x.i y.i && sameT x.e y.e
def sameF (x y : Fn) : Bool := x.s == y.s && x.b == y.b && x.p == y.p && listB sameB x.l y.l
def sameG (x y : Gl) : Bool := x.s == y.s && x.b == y.b && x.h == y.h && x.i == y.i
def sameM (m k : Md) : Bool := listB sameF m.f k.f && listB sameG m.g k.g
theorem listB_len {α : Type} {p : α → α → Bool} {a b : List α} (h : a.length ≠ b.length) : listB p a b = false := by
  unfold listB
  rw [show (a.length == b.length) = false by simpa using h]
  rfl
theorem zip_take {α : Type} {p : α → α → Bool} {a b : List α} {i : Nat} (ha : i < a.length) (hb : i < b.length) (h : ((a.take i).zip (b.take i)).all (fun x => p x.1 x.2) = true) :
    ((a.take (i + 1)).zip (b.take (i + 1))).all (fun x => p x.1 x.2) = p a[i] b[i] := by
  rw [List.take_succ_eq_append_getElem ha, List.take_succ_eq_append_getElem hb, List.zip_append (by simp; omega), List.all_append, h]
  simp
theorem zip_no {α : Type} {p : α → α → Bool} {a b : List α} {i : Nat} (ha : i < a.length) (hb : i < b.length) (h : p a[i] b[i] = false) : listB p a b = false := by
  unfold listB
  have : (a.zip b).all (fun x => p x.1 x.2) = false := by
    rw [List.all_eq_false]
    exact ⟨(a.zip b)[i]'(by simp; omega), List.getElem_mem _, by rw [List.getElem_zip]; simp [h]⟩
  rw [this, Bool.and_false]
theorem zip_all {α : Type} {p : α → α → Bool} {a b : List α} {n : Nat} (ha : a.length = n) (hb : b.length = n) (h : ((a.take n).zip (b.take n)).all (fun x => p x.1 x.2) = true) : listB p a b = true := by
  rw [List.take_of_length_le (by omega), List.take_of_length_le (by omega)] at h
  unfold listB
  rw [h, ha, hb]
  simp
end Go.Proofs.Ytcfniagmnkngfaa
