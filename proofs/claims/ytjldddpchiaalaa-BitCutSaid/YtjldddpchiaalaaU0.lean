/- Package bit: a module's bytes, and the module of bytes: pure. -/
import Derived.Test.YtjldddpchiaalaaHU8
namespace Go.Proofs.Ytjldddpchiaalaa
open Go.RowKit
namespace Q

/-- the bytes of a number that isn't below 0; of a text; of a row -/
def nL (x : Int) : List UInt8 := numL x.toNat
def txL (s : ByteArray) : List UInt8 := numL s.size ++ s.data.toList
def rowL {α : Type} (p : α → List UInt8) (l : List α) : List UInt8 := numL l.length ++ l.flatMap p
/-- an instruction's, but for the number of its operation -/
def inT (o a b k : Int) (s : ByteArray) (l : List Int) : List UInt8 :=
  if o = 1 then nL k else if 2 ≤ o ∧ o ≤ 11 then nL a ++ nL b else if o = 12 then txL s else if o = 13 then nL a ++ txL s else if o = 14 then txL s ++ rowL nL l else if o = 16 then nL a else []
def inL (i : In) : List UInt8 := nL i.o ++ inT i.o i.a i.b i.k i.s i.l
/-- an end's -/
def tmT (t : Tm) : List UInt8 := if t.k = 1 then nL t.t ++ rowL nL t.l else if t.k = 2 then nL t.a ++ nL t.t ++ rowL nL t.l ++ nL t.e ++ rowL nL t.m else if t.k = 3 then nL t.a else []
def tmL (t : Tm) : List UInt8 := nL t.k ++ tmT t
def bkL (b : Bk) : List UInt8 := nL b.p ++ rowL inL b.i ++ tmL b.e
def fnL (f : Fn) : List UInt8 := txL f.s ++ nL f.b ++ nL f.p ++ rowL bkL f.l
def hereN (h : Bool) : Nat := if h then 1 else 0
def glL (g : Gl) : List UInt8 := txL g.s ++ nL g.b ++ numL (hereN g.h) ++ nL g.i
def mdL (m : Md) : List UInt8 := [77, 73, 82, 49] ++ rowL fnL m.f ++ rowL glL m.g

/-- a number that a place of 32 bits may have, and that an Int holds -/
def NN (x : Int) : Prop := 0 ≤ x ∧ x ≤ 4294967295
def InN (i : In) : Prop := NN i.o ∧ NN i.a ∧ NN i.b ∧ (0 ≤ i.k ∧ i.k ≤ 18446744073709551615) ∧ i.s.size ≤ 16 ∧ i.l.length ≤ 6 ∧ ∀ v ∈ i.l, NN v
def TmN (t : Tm) : Prop := NN t.k ∧ NN t.a ∧ NN t.t ∧ (t.l.length ≤ 6 ∧ ∀ v ∈ t.l, NN v) ∧ NN t.e ∧ (t.m.length ≤ 6 ∧ ∀ v ∈ t.m, NN v)
def BkN (b : Bk) : Prop := NN b.p ∧ (b.i.length ≤ 32 ∧ ∀ i ∈ b.i, InN i) ∧ TmN b.e
def FnN (f : Fn) : Prop := f.s.size ≤ 16 ∧ NN f.b ∧ NN f.p ∧ f.l.length ≤ 16 ∧ ∀ b ∈ f.l, BkN b
def GlN (g : Gl) : Prop := g.s.size ≤ 16 ∧ NN g.b ∧ (0 ≤ g.i ∧ g.i ≤ 18446744073709551615)
def MdN (m : Md) : Prop := (m.f.length ≤ 16 ∧ ∀ f ∈ m.f, FnN f) ∧ (m.g.length ≤ 16 ∧ ∀ g ∈ m.g, GlN g)

/-- where a reader is: what is left, why it can't go on -/
abbrev St := List UInt8 × Int
def wideR (r : St) : Nat × St := if r.2 = 0 then ((tn 10 r.1 0).1, (tn 10 r.1 0).2.1, (tn 10 r.1 0).2.2) else (0, r)
def refuseR (e : Int) (r : St) : St := if r.2 = 0 then (r.1, e) else r
def betW (lo hi : Nat) (e : Int) (t : Nat × St) : St := if 4294967295 < t.1 then refuseR 4 t.2 else if t.1 < lo ∨ hi < t.1 then refuseR e t.2 else t.2
def betF (t : Nat × St) (u : St) : Nat × St := (if u.2 = 0 then t.1 else 0, u)
def betweenR (lo hi : Nat) (e : Int) (r : St) : Nat × St := betF (wideR r) (betW lo hi e (wideR r))
def numR (r : St) : Nat × St := betweenR 0 4294967295 4 r
def textF (t : Nat × St) : List UInt8 × St := if t.2.1.length < t.1 then ([], refuseR 2 t.2) else (t.2.1.take t.1, (t.2.1.drop t.1, t.2.2))
def textR (r : St) : List UInt8 × St := textF (betweenR 0 16 4 r)
def timesR {α : Type} (take : St → α × St) : Nat → St → List α × St
  | 0, r => ([], r)
  | n + 1, r => ((take r).1 :: (timesR take n (take r).2).1, (timesR take n (take r).2).2)
def rowR {α : Type} (most : Nat) (take : St → α × St) (r : St) : List α × St := timesR take (betweenR 0 most 4 r).1 (betweenR 0 most 4 r).2
theorem timesR_snoc {α : Type} (take : St → α × St) : ∀ (n : Nat) (r : St), timesR take (n + 1) r = ((timesR take n r).1 ++ [(take (timesR take n r).2).1], (take (timesR take n r).2).2)
  | 0, r => rfl
  | n + 1, r => by
    have h := timesR_snoc take n (take r).2
    rw [timesR, h]
    rfl
theorem timesR_len {α : Type} (take : St → α × St) : ∀ (n : Nat) (r : St), (timesR take n r).1.length = n
  | 0, r => rfl
  | n + 1, r => by rw [timesR, List.length_cons, timesR_len take n]
def intR (r : St) : Int × St := (((numR r).1 : Nat), (numR r).2)
def valsR (r : St) : List Int × St := rowR 6 intR r
def strB (l : List UInt8) : ByteArray := ⟨l.toArray⟩
/-- an instruction of that operation -/
def insR (o : Nat) (r : St) : In × St :=
  if o = 1 then (⟨o, 0, 0, (wideR r).1, .empty, []⟩, (wideR r).2)
  else if 2 ≤ o ∧ o ≤ 11 then (⟨o, (numR r).1, (numR (numR r).2).1, 0, .empty, []⟩, (numR (numR r).2).2)
  else if o = 12 then (⟨o, 0, 0, 0, strB (textR r).1, []⟩, (textR r).2)
  else if o = 13 then (⟨o, (numR r).1, 0, 0, strB (textR (numR r).2).1, []⟩, (textR (numR r).2).2)
  else if o = 14 then (⟨o, 0, 0, 0, strB (textR r).1, (valsR (textR r).2).1⟩, (valsR (textR r).2).2)
  else if o = 16 then (⟨o, (numR r).1, 0, 0, .empty, []⟩, (numR r).2)
  else (⟨o, 0, 0, 0, .empty, []⟩, r)
def instR (r : St) : In × St := insR (betweenR 1 16 3 r).1 (betweenR 1 16 3 r).2
/-- an end of that kind -/
def endsR (k : Nat) (r : St) : Tm × St :=
  if k = 1 then (⟨k, 0, (numR r).1, (valsR (numR r).2).1, 0, []⟩, (valsR (numR r).2).2)
  else if k = 2 then
    (⟨k, (numR r).1, (numR (numR r).2).1, (valsR (numR (numR r).2).2).1, (numR (valsR (numR (numR r).2).2).2).1, (valsR (numR (valsR (numR (numR r).2).2).2).2).1⟩, (valsR (numR (valsR (numR (numR r).2).2).2).2).2)
  else if k = 3 then (⟨k, (numR r).1, 0, [], 0, []⟩, (numR r).2)
  else (⟨k, 0, 0, [], 0, []⟩, r)
def endR (r : St) : Tm × St := endsR (betweenR 1 3 3 r).1 (betweenR 1 3 3 r).2
def blockR (r : St) : Bk × St := (⟨(numR r).1, (rowR 32 instR (numR r).2).1, (endR (rowR 32 instR (numR r).2).2).1⟩, (endR (rowR 32 instR (numR r).2).2).2)
def funcR (r : St) : Fn × St :=
  (⟨strB (textR r).1, (numR (textR r).2).1, (numR (numR (textR r).2).2).1, (rowR 16 blockR (numR (numR (textR r).2).2).2).1⟩, (rowR 16 blockR (numR (numR (textR r).2).2).2).2)
def globR (r : St) : Gl × St :=
  (⟨strB (textR r).1, (numR (textR r).2).1, decide ((betweenR 0 1 3 (numR (textR r).2).2).1 = 1), (wideR (betweenR 0 1 3 (numR (textR r).2).2).2).1⟩, (wideR (betweenR 0 1 3 (numR (textR r).2).2).2).2)
def modR (r : St) : Md × St := (⟨(rowR 16 funcR r).1, (rowR 16 globR (rowR 16 funcR r).2).1⟩, (rowR 16 globR (rowR 16 funcR r).2).2)
def noMd : Md := ⟨[], []⟩
/-- the module of bytes, and why there is none -/
def takeE (s : List UInt8) : Int :=
  if s.take 4 = [77, 73, 82, 49] then
    (let r := (modR (s.drop 4, 0)).2
     let r1 := if r.1 = [] then r else refuseR 3 r
     let r2 := refuseR (checkE (modR (s.drop 4, 0)).1) r1
     let r3 := if 65535 < s.length then refuseR 4 r2 else r2
     r3.2) else 3
def takeM (s : List UInt8) : Md := if s.take 4 = [77, 73, 82, 49] ∧ takeE s = 0 then (modR (s.drop 4, 0)).1 else noMd
def bytesE (m : Md) : Int := if checkE m = 0 then (if 65535 < (mdL m).length then 4 else 0) else checkE m
def bytesL (m : Md) : List UInt8 := if bytesE m = 0 then mdL m else []
end Q
end Go.Proofs.Ytjldddpchiaalaa
