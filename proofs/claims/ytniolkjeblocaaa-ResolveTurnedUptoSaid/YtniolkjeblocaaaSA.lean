/- Package resolve: items, and what is asked of them. Package resolve: what is wrong with a name's items. Package resolve: the error of a name. Package resolve: a name's definition. -/
import Derived.Test.YtniolkjeblocaaaH1
namespace Go.Proofs.Ytniolkjeblocaaa
open Go.RowKit

/-- an item of a shared name -/
structure Ri where
  s : ByteArray
  o : Int
  f : Bool
  p : Int
  b : Int
  h : Bool
def riV (x : Ri) : Value := .agg #[.string x.s, .int .i64 x.o, .bool x.f, .int .i64 x.p, .int .i64 x.b, .bool x.h]
def RiIn (W : World) (b off : Nat) (x : Ri) : Prop :=
  W.cell? ⟨b, off, none⟩ = some (.string x.s) ∧ W.cell? ⟨b, off + 1, none⟩ = some (.int .i64 x.o) ∧ W.cell? ⟨b, off + 2, none⟩ = some (.bool x.f) ∧ W.cell? ⟨b, off + 3, none⟩ = some (.int .i64 x.p) ∧ W.cell? ⟨b, off + 4, none⟩ = some (.int .i64 x.b) ∧ W.cell? ⟨b, off + 5, none⟩ = some (.bool x.h)
theorem RiIn.next (W W' : World) (b off : Nat) (x : Ri) (hb : b < W.heap.size) (h : Below W.heap.size W W') (hx : RiIn W b off x) : RiIn W' b off x := by
  obtain ⟨h0, h1, h2, h3, h4, h5⟩ := hx
  exact ⟨(cellNext hb h _).trans h0, (cellNext hb h _).trans h1, (cellNext hb h _).trans h2, (cellNext hb h _).trans h3, (cellNext hb h _).trans h4, (cellNext hb h _).trans h5⟩
def Ris : World → Value → List Ri → Prop := RowOf 6 RiIn
theorem Ris.next {W W' : World} {v : Value} {l : List Ri} (h : Ris W v l) (hb : Below W.heap.size W W') : Ris W' v l := RowOf.next RiIn.next h hb
/-- the first place of one that is so; below 0: there is none -/
def idxI (p : Ri → Bool) (xs : List Ri) : Int := if xs.any p then (xs.findIdx p : Nat) else -1
theorem idxI_at {p : Ri → Bool} {xs : List Ri} {i : Nat} (hi : i < xs.length) (h : (xs.take i).any p = false) (h1 : p xs[i] = true) : idxI p xs = i := by
  unfold idxI
  rw [if_pos (List.any_eq_true.2 ⟨_, List.getElem_mem hi, h1⟩)]
  congr 1
  rw [List.findIdx_eq hi]
  refine ⟨h1, fun j hj => ?_⟩
  have h2 := List.any_eq_false.1 h xs[j] (List.mem_take_iff_getElem.2 ⟨j, by omega, rfl⟩)
  simpa using h2
theorem idxI_no {p : Ri → Bool} {xs : List Ri} (h : xs.any p = false) : idxI p xs = -1 := by unfold idxI; rw [h]; rfl
theorem idxI_pos (p : Ri → Bool) (xs : List Ri) : decide (0 ≤ idxI p xs) = xs.any p := by
  unfold idxI
  cases h : xs.any p <;> simp
def dfB (x : Ri) : Bool := x.h
def stB (x : Ri) : Bool := x.b == 2
def seB (x : Ri) : Bool := x.h && x.b == 2
set_option maxRecDepth 100000 in
theorem df_any (x : Ri) (w : World) : Calls Try.prog 74 #[riV x] w fun e w' => e = .returned (.bool (dfB x)) ∧ Below w.heap.size w w' := by
  obtain ⟨s, o, f, p, b, h⟩ := x
  unfold riV dfB
  dsimp only
  go_enter Try.func74, Try.ntmps74
  go_wp2_with fail
  go_ret
  exact ⟨rfl, balloc (Below.refl _ _) _⟩
set_option maxRecDepth 100000 in
theorem st_any (x : Ri) (w : World) : Calls Try.prog 93 #[riV x] w fun e w' => e = .returned (.bool (stB x)) ∧ Below w.heap.size w w' := by
  obtain ⟨s, o, f, p, b, h⟩ := x
  unfold riV stB
  dsimp only
  go_enter Try.func93, Try.ntmps93
  go_wp2_with fail
  go_ret
  exact ⟨rfl, balloc (Below.refl _ _) _⟩
set_option maxRecDepth 100000 in
theorem se_any (x : Ri) (w : World) : Calls Try.prog 77 #[riV x] w fun e w' => e = .returned (.bool (seB x)) ∧ Below w.heap.size w w' := by
  have HD := Lib.hid (fun U => df_any x U)
  have HS := Lib.hid (fun U => st_any x U)
  obtain ⟨s, o, f, p, b, h⟩ := x
  unfold riV dfB at HD
  unfold riV stB at HS
  unfold riV seB
  dsimp only at HD HS ⊢
  go_enter Try.func77, Try.ntmps77
  go_wp2_with fail
  refine (HD.out _).mono ?_
  rintro r w1 ⟨rfl, hb1⟩
  have HB1 := Lib.hid (bthen (balloc (Below.refl _ w) _) hb1)
  have hx := (hb1.block w.heap.size (by simp)).trans (heap_alloc_new w _)
  have q0 := Lib.cell_of_heap hx 0
  have q1 := Lib.cell_of_heap hx 1
  have q2 := Lib.cell_of_heap hx 2
  have q3 := Lib.cell_of_heap hx 3
  have q4 := Lib.cell_of_heap hx 4
  have q5 := Lib.cell_of_heap hx 5
  simp only [List.getElem?_toArray, List.getElem?_cons_zero, List.getElem?_cons_succ] at q0 q1 q2 q3 q4 q5
  clear hx hb1
  cases h with
  | false =>
    go_wp2_with fail
    go_ret
    exact ⟨rfl, HB1.out⟩
  | true =>
    go_wp2_with fail
    refine (HS.out _).mono ?_
    rintro r w2 ⟨rfl, hb2⟩
    have HB2 := Lib.hid (bthen HB1.out hb2)
    clear hb2
    go_wp2_with fail
    go_ret
    exact ⟨rfl, HB2.out⟩
set_option maxRecDepth 100000 in
set_option maxHeartbeats 4000000 in
/-- IndexFunc, with whatever function answers what p does -/
theorem indexR_any (p : Ri → Bool) (g : FuncId) (caps : Array Value) (xs : List Ri) (A : Option Addr) (n c : Nat) (w : World) (hn : xs.length = n) (h9 : n ≤ 9223372036854775807) (hS : Ris w (.slice A n c) xs) (hcf : ∀ args U, (callFunc g args).run Try.prog U = .ok (.enter g args) U)
    (hC : ∀ x ∈ xs, ∀ U, Below w.heap.size w U → Calls Try.prog g (#[riV x] ++ caps) U fun e w' => e = .returned (.bool (p x)) ∧ Below U.heap.size U w') :
    Calls Try.prog 73 #[.slice A n c, .func (.func g) #[] caps] w fun e w' => e = .returned (.int .i64 (idxI p xs)) ∧ Below w.heap.size w w' := by
  have HN := Lib.hid (show xs.length ≤ n ∧ n ≤ xs.length by omega)
  have HS := Lib.hid hS
  have HC := Lib.hid hC
  have HCF := Lib.hid hcf
  have n1 : (n : Int) ≤ 9223372036854775807 := by omega
  obtain ⟨V, hV⟩ : ∃ V, idxI p xs = V := ⟨_, rfl⟩
  have HE := Lib.hid hV
  rw [hV]
  clear hS hC hcf hn h9 hV
  go_enter Try.func73, Try.ntmps73
  go_wp2_with fail
  go_loopw [8] (fun iv wr => ∃ i : Nat, i ≤ n ∧ iv = .int .i64 i ∧ (xs.take i).any p = false ∧ Below w.heap.size w wr) (fun iv _ => n - (intOf iv).toNat)
  case atStart => exact ⟨0, Nat.zero_le _, rfl, rfl, Below.refl _ _⟩
  case round =>
    obtain ⟨i, hi, rfl, hs, hb⟩ := hrel
    have HT := Lib.hid hs
    have HB := Lib.hid hb
    clear hs
    by_cases hlt : i < n
    · have hm : i < xs.length := by have := HN.out; omega
      obtain ⟨b1, off, hA, hbl, e0⟩ := RowOf.at_ (HS.out.next hb) hm
      subst hA
      have HY := Lib.hid (show p xs[i] = true → V = (i : Int) from fun h => by rw [← HE.out]; exact idxI_at hm HT.out h)
      have HNX := Lib.hid (show p xs[i] = false → (xs.take (i + 1)).any p = false from fun h => by
        rw [List.take_succ_eq_append_getElem hm, List.any_append, HT.out]
        simp [h])
      have HCI := Lib.hid (HC.out xs[i] (List.getElem_mem hm) wr hb)
      obtain ⟨⟨s0, o0, f0, p0, b0, h0⟩, hx⟩ : ∃ x, xs[i] = x := ⟨_, rfl⟩
      rw [hx] at e0 HY HNX HCI
      obtain ⟨g0, g1, g2, g3, g4, g5⟩ := e0
      obtain ⟨Q, hQ⟩ : ∃ Q, p ⟨s0, o0, f0, p0, b0, h0⟩ = Q := ⟨_, rfl⟩
      rw [hQ] at HY HNX HCI
      unfold riV at HCI
      dsimp only at HCI
      have hk0 : (0 : Int) ≤ (i : Int) := Int.natCast_nonneg _
      have hk1 : (i : Int) < (n : Int) := by omega
      have HLT := Lib.hid hlt
      clear hx hm hlt hbl hb hQ
      go_wp2_with fail
      rw [HCF.out]
      refine Calls.mono HCI.out ?_
      rintro r w2 ⟨rfl, hb2⟩
      have HB2 := Lib.hid (bthen HB.out hb2)
      clear hb2
      cases Q with
      | true =>
        have HV := Lib.hid (HY.out rfl)
        go_wp2_with fail
        go_ret
        exact ⟨by rw [HV.out]; rfl, HB2.out⟩
      | false =>
        have HV := Lib.hid (HNX.out rfl)
        go_wp2_with fail
        go_roundw
        case rel => exact ⟨i + 1, HLT.out, by go_num, HV.out, HB2.out⟩
        case measure => have := HLT.out; simp [intOf]; omega
    · have hd : decide ((i : Int) < (n : Int)) = false := by simp; omega
      have HV := Lib.hid (show V = -1 by
        have h := HT.out
        rw [List.take_of_length_le (by have := HN.out; omega)] at h
        rw [← HE.out, idxI_no h])
      go_wp2_with fail
      go_ret
      exact ⟨by rw [HV.out]; rfl, HB.out⟩
set_option maxRecDepth 100000 in
set_option maxHeartbeats 4000000 in
theorem containsR_any (p : Ri → Bool) (g : FuncId) (caps : Array Value) (xs : List Ri) (A : Option Addr) (n c : Nat) (w : World) (hn : xs.length = n) (h9 : n ≤ 9223372036854775807) (hS : Ris w (.slice A n c) xs) (hcf : ∀ args U, (callFunc g args).run Try.prog U = .ok (.enter g args) U)
    (hC : ∀ x ∈ xs, ∀ U, Below w.heap.size w U → Calls Try.prog g (#[riV x] ++ caps) U fun e w' => e = .returned (.bool (p x)) ∧ Below U.heap.size U w') :
    Calls Try.prog 92 #[.slice A n c, .func (.func g) #[] caps] w fun e w' => e = .returned (.bool (xs.any p)) ∧ Below w.heap.size w w' := by
  have HI := Lib.hid (indexR_any p g caps xs A n c w hn h9 hS hcf hC)
  obtain ⟨V, hV⟩ : ∃ V, idxI p xs = V := ⟨_, rfl⟩
  have HP := Lib.hid (show decide (0 ≤ V) = xs.any p by rw [← hV]; exact idxI_pos p xs)
  rw [hV] at HI
  generalize xs.any p = B at *
  clear hn h9 hS hcf hC hV
  go_enter Try.func92, Try.ntmps92
  go_wp2_with fail
  refine HI.out.mono ?_
  rintro r w1 ⟨rfl, hb⟩
  have HB := Lib.hid hb
  clear hb
  go_wp2_with fail
  go_ret
  exact ⟨by first | exact congrArg (fun x => Ending.returned (Value.bool x)) HP.out | (simp; exact HP.out), HB.out⟩
theorem cf_df : ∀ args U, (callFunc 74 args).run Try.prog U = .ok (.enter 74 args) U := fun _ _ => by kernel_rfl
theorem cf_st : ∀ args U, (callFunc 93 args).run Try.prog U = .ok (.enter 93 args) U := fun _ _ => by kernel_rfl
theorem cf_se : ∀ args U, (callFunc 77 args).run Try.prog U = .ok (.enter 77 args) U := fun _ _ => by kernel_rfl
end Go.Proofs.Ytniolkjeblocaaa

namespace Go.Proofs.Ytniolkjeblocaaa
open Go.RowKit

set_option maxRecDepth 100000 in
theorem has_any (p : Ri → Bool) (g : FuncId) (caps : Array Value) (s : ByteArray) (xs : List Ri) (A : Option Addr) (n c : Nat) (w : World) (hn : xs.length = n) (h9 : n ≤ 9223372036854775807) (hS : Ris w (.slice A n c) xs) (hcf : ∀ args U, (callFunc g args).run Try.prog U = .ok (.enter g args) U)
    (hC : ∀ x ∈ xs, ∀ U, Below w.heap.size w U → Calls Try.prog g (#[riV x] ++ caps) U fun e w' => e = .returned (.bool (p x)) ∧ Below U.heap.size U w') :
    Calls Try.prog 76 #[.agg #[.string s, .slice A n c], .func (.func g) #[] caps] w fun e w' => e = .returned (.bool (xs.any p)) ∧ Below w.heap.size w w' := by
  have HI := Lib.hid (fun (U : World) (hU : Below w.heap.size w U) => containsR_any p g caps xs A n c U hn h9 (hS.next hU) hcf (fun x hx V hV => hC x hx V (bthen hU hV)))
  have HB0 := Lib.hid (balloc (Below.refl _ w) (.cells #[.string s, .slice A n c] 87))
  clear hn h9 hS hcf hC
  go_enter Try.func76, Try.ntmps76
  go_wp2_with fail
  refine (HI.out _ HB0.out).mono ?_
  rintro r w1 ⟨rfl, hb⟩
  have HB := Lib.hid (bthen HB0.out hb)
  clear hb
  go_wp2_with fail
  go_ret
  exact ⟨rfl, HB.out⟩
def misB (xs : List Ri) : Bool := xs.any stB && !xs.any dfB
set_option maxRecDepth 100000 in
theorem missing_any (s : ByteArray) (xs : List Ri) (A : Option Addr) (n c : Nat) (w : World) (hn : xs.length = n) (h9 : n ≤ 9223372036854775807) (hS : Ris w (.slice A n c) xs) :
    Calls Try.prog 89 #[.agg #[.string s, .slice A n c]] w fun e w' => e = .returned (.bool (misB xs)) ∧ Below w.heap.size w w' := by
  have H1 := Lib.hid (fun (U : World) (hU : Below w.heap.size w U) => has_any stB _ #[] s xs A n c U hn h9 (hS.next hU) cf_st (fun x _ V _ => st_any x V))
  have H2 := Lib.hid (fun (U : World) (hU : Below w.heap.size w U) => has_any dfB _ #[] s xs A n c U hn h9 (hS.next hU) cf_df (fun x _ V _ => df_any x V))
  have HB0 := Lib.hid (balloc (Below.refl _ w) (.cells #[.string s, .slice A n c] 87))
  unfold misB
  generalize xs.any stB = b1 at *
  generalize xs.any dfB = b2 at *
  clear hn h9 hS
  go_enter Try.func89, Try.ntmps89
  go_wp2_with fail
  refine (H1.out _ HB0.out).mono ?_
  rintro r w1 ⟨rfl, hb⟩
  have HB := Lib.hid (bthen HB0.out hb)
  have hx := (hb.block w.heap.size (by simp)).trans (heap_alloc_new w _)
  have q0 := Lib.cell_of_heap hx 0
  have q1 := Lib.cell_of_heap hx 1
  simp only [List.getElem?_toArray, List.getElem?_cons_zero, List.getElem?_cons_succ] at q0 q1
  clear hx hb
  cases b1 with
  | false =>
    go_wp2_with fail
    go_ret
    exact ⟨rfl, HB.out⟩
  | true =>
    go_wp2_with fail
    refine (H2.out _ HB.out).mono ?_
    rintro r w2 ⟨rfl, hb2⟩
    have HB2 := Lib.hid (bthen HB.out hb2)
    clear hb2
    go_wp2_with fail
    go_ret
    exact ⟨rfl, HB2.out⟩
theorem kind_info : (Try.prog.info? 128).map (·.size) = some 2 := by kernel_rfl
set_option maxRecDepth 100000 in
theorem kind_any (s : ByteArray) (x : Ri) (xs : List Ri) (A : Option Addr) (n c : Nat) (w : World) (hn : xs.length = n) (h9 : n ≤ 9223372036854775807) (hx : xs[0]? = some x) (hS : Ris w (.slice A n c) xs) :
    Calls Try.prog 75 #[.agg #[.string s, .slice A n c]] w fun e w' => e = .returned (.agg #[.bool x.f, .int .i64 x.p]) ∧ Below w.heap.size w w' := by
  have hl : 0 < xs.length := (List.getElem?_eq_some_iff.1 hx).1
  obtain ⟨b, off, hA, hbl, e0⟩ := RowOf.at_ hS hl
  rw [(List.getElem?_eq_some_iff.1 hx).2] at e0
  subst hA
  obtain ⟨s0, o0, f0, p0, b0, h0⟩ := x
  obtain ⟨-, -, g2, g3, -, -⟩ := e0
  simp only [Nat.zero_mul, Nat.add_zero] at g2 g3
  have hb2 := balloc (balloc (Below.refl _ w) (.cells #[.string s, .slice (some ⟨b, off, none⟩) n c] 87)) (.cells #[.bool false, .int .i64 0] 128)
  have g2 := (cellNext hbl hb2 _).trans g2
  have g3 := (cellNext hbl hb2 _).trans g3
  have n1 : (n : Int) ≤ 9223372036854775807 := by omega
  have n0 : (0 : Int) < (n : Int) := by omega
  have n00 : 0 < n := by omega
  clear hS hx hbl hb2 hl hn h9
  dsimp only
  go_enter Try.func75, Try.ntmps75
  go_wp2_with fail
  have hz := heap_alloc_new (w.alloc (.cells #[.string s, .slice (some ⟨b, off, none⟩) n c] 87)) (.cells #[.bool f0, .int .i64 p0] 128)
  rw [show (w.alloc (.cells #[.string s, .slice (some ⟨b, off, none⟩) n c] 87)).heap.size = w.heap.size + 1 by simp] at hz
  exact bodyPost_ret (results_cell_row Try.results75 _ _ _ _ _ _ rfl hz Try.underlying128 rfl (cs := #[.bool f0, .int .i64 p0]) kind_info) rfl ⟨rfl, balloc (balloc (Below.refl _ w) _) _⟩
def difB (y x : Ri) : Bool := !(x.f == y.f && x.p == y.p)
/-- what lies there as mixed is asked of an item -/
def MxS (a b : Value) (B X : Nat) (c d : Value) (W0 W : World) : Prop := W.cell? ⟨B, 2, none⟩ = some a ∧ W.cell? ⟨B, 3, none⟩ = some b ∧ W.cell? ⟨X, 0, none⟩ = some c ∧ W.cell? ⟨X, 1, none⟩ = some d ∧ Below W0.heap.size W0 W
theorem MxS.next {a b : Value} {B X : Nat} {c d : Value} {W0 U W : World} (h : MxS a b B X c d W0 U) (hb : Below U.heap.size U W) : MxS a b B X c d W0 W := by
  obtain ⟨h1, h2, h3, h4, h5⟩ := h
  exact ⟨(cellNext (World.block_lt_of_cell? U _ h1) hb _).trans h1, (cellNext (World.block_lt_of_cell? U _ h2) hb _).trans h2, (cellNext (World.block_lt_of_cell? U _ h3) hb _).trans h3, (cellNext (World.block_lt_of_cell? U _ h4) hb _).trans h4, bthen h5 hb⟩
set_option maxRecDepth 100000 in
theorem mixed1_any (s : ByteArray) (x y : Ri) (xs : List Ri) (A : Option Addr) (n c X : Nat) (w : World) (hn : xs.length = n) (h9 : n ≤ 9223372036854775807) (hx : xs[0]? = some y) (hS : Ris w (.slice A n c) xs) (h0 : w.cell? ⟨X, 0, none⟩ = some (.string s)) (h1 : w.cell? ⟨X, 1, none⟩ = some (.slice A n c)) :
    Calls Try.prog 106 #[riV x, .pointer (some ⟨X, 0, none⟩)] w fun e w' => e = .returned (.bool (difB y x)) ∧ Below w.heap.size w w' := by
  have HK := Lib.hid (fun (U : World) (hU : Below w.heap.size w U) => kind_any s y xs A n c U hn h9 hx (hS.next hU))
  have hX := World.block_lt_of_cell? w _ h0
  have HX := Lib.hid hX
  have HB0 := Lib.hid (balloc (Below.refl _ w) (.cells #[.string x.s, .int .i64 x.o, .bool x.f, .int .i64 x.p, .int .i64 x.b, .bool x.h] 130))
  have g0 := (cellNext hX HB0.out 0).trans h0
  have g1 := (cellNext hX HB0.out 1).trans h1
  obtain ⟨s0, o0, f0, p0, b0, h00⟩ := x
  obtain ⟨s1, o1, f1, p1, b1, h11⟩ := y
  unfold riV difB
  dsimp only at *
  clear hn h9 hx hS h0 h1 hX
  go_enter Try.func106, Try.ntmps106
  go_upto_region 1 with fail
  have hz := heap_alloc_new w (.cells #[.string s0, .int .i64 o0, .bool f0, .int .i64 p0, .int .i64 b0, .bool h00] 130)
  have z2 := Lib.cell_of_heap hz 2
  have z3 := Lib.cell_of_heap hz 3
  simp only [List.getElem?_toArray, List.getElem?_cons_zero, List.getElem?_cons_succ] at z2 z3
  clear hz
  generalize w.alloc (.cells #[.string s0, .int .i64 o0, .bool f0, .int .i64 p0, .int .i64 b0, .bool h00] 130) = W0 at *
  have hd : MxS (.bool f0) (.int .i64 p0) w.heap.size X (.string s) (.slice A n c) W0 W0.drew := MxS.next ⟨z2, z3, g0, g1, Below.refl _ _⟩ (Below.refl _ _).drew
  unfold MxS at hd
  by_cases hp : p0 = p1
  · subst hp
    cases f0 <;> cases f1
    · go_region_held3 (fun W' => W'.cell? ⟨w.heap.size, 2, none⟩ = some (.bool false) ∧ W'.cell? ⟨w.heap.size, 3, none⟩ = some (.int .i64 p0) ∧ W'.cell? ⟨X, 0, none⟩ = some (.string s) ∧ W'.cell? ⟨X, 1, none⟩ = some (.slice A n c) ∧ Below W0.heap.size W0 W') (first | assumption | exact hd | exact MxS.next (by assumption) (by assumption))
        (first
          | (go_at_call 75; refine Calls.mono (HK.out _ (bthen HB0.out (And.right (And.right (And.right (And.right (by assumption))))))) ?_; rintro r w2 ⟨rfl, hb2⟩))
      all_goals
        have HB5 := Lib.hid (bthen HB0.out (And.right (And.right (And.right (And.right (by assumption))))))
        go_wp2_with fail
        go_ret
        exact ⟨by simp, HB5.out⟩
    · go_region_held3 (fun W' => W'.cell? ⟨w.heap.size, 2, none⟩ = some (.bool false) ∧ W'.cell? ⟨w.heap.size, 3, none⟩ = some (.int .i64 p0) ∧ W'.cell? ⟨X, 0, none⟩ = some (.string s) ∧ W'.cell? ⟨X, 1, none⟩ = some (.slice A n c) ∧ Below W0.heap.size W0 W') (first | assumption | exact hd | exact MxS.next (by assumption) (by assumption))
        (first
          | (go_at_call 75; refine Calls.mono (HK.out _ (bthen HB0.out (And.right (And.right (And.right (And.right (by assumption))))))) ?_; rintro r w2 ⟨rfl, hb2⟩))
      all_goals
        have HB5 := Lib.hid (bthen HB0.out (And.right (And.right (And.right (And.right (by assumption))))))
        go_wp2_with fail
        go_ret
        exact ⟨by simp, HB5.out⟩
    · go_region_held3 (fun W' => W'.cell? ⟨w.heap.size, 2, none⟩ = some (.bool true) ∧ W'.cell? ⟨w.heap.size, 3, none⟩ = some (.int .i64 p0) ∧ W'.cell? ⟨X, 0, none⟩ = some (.string s) ∧ W'.cell? ⟨X, 1, none⟩ = some (.slice A n c) ∧ Below W0.heap.size W0 W') (first | assumption | exact hd | exact MxS.next (by assumption) (by assumption))
        (first
          | (go_at_call 75; refine Calls.mono (HK.out _ (bthen HB0.out (And.right (And.right (And.right (And.right (by assumption))))))) ?_; rintro r w2 ⟨rfl, hb2⟩))
      all_goals
        have HB5 := Lib.hid (bthen HB0.out (And.right (And.right (And.right (And.right (by assumption))))))
        go_wp2_with fail
        go_ret
        exact ⟨by simp, HB5.out⟩
    · go_region_held3 (fun W' => W'.cell? ⟨w.heap.size, 2, none⟩ = some (.bool true) ∧ W'.cell? ⟨w.heap.size, 3, none⟩ = some (.int .i64 p0) ∧ W'.cell? ⟨X, 0, none⟩ = some (.string s) ∧ W'.cell? ⟨X, 1, none⟩ = some (.slice A n c) ∧ Below W0.heap.size W0 W') (first | assumption | exact hd | exact MxS.next (by assumption) (by assumption))
        (first
          | (go_at_call 75; refine Calls.mono (HK.out _ (bthen HB0.out (And.right (And.right (And.right (And.right (by assumption))))))) ?_; rintro r w2 ⟨rfl, hb2⟩))
      all_goals
        have HB5 := Lib.hid (bthen HB0.out (And.right (And.right (And.right (And.right (by assumption))))))
        go_wp2_with fail
        go_ret
        exact ⟨by simp, HB5.out⟩
  · have hq : (p0 == p1) = false := by simpa using hp
    cases f0 <;> cases f1
    · go_region_held3 (fun W' => W'.cell? ⟨w.heap.size, 2, none⟩ = some (.bool false) ∧ W'.cell? ⟨w.heap.size, 3, none⟩ = some (.int .i64 p0) ∧ W'.cell? ⟨X, 0, none⟩ = some (.string s) ∧ W'.cell? ⟨X, 1, none⟩ = some (.slice A n c) ∧ Below W0.heap.size W0 W') (first | assumption | exact hd | exact MxS.next (by assumption) (by assumption))
        (first
          | (go_at_call 75; refine Calls.mono (HK.out _ (bthen HB0.out (And.right (And.right (And.right (And.right (by assumption))))))) ?_; rintro r w2 ⟨rfl, hb2⟩))
      all_goals
        have HB5 := Lib.hid (bthen HB0.out (And.right (And.right (And.right (And.right (by assumption))))))
        go_wp2_with fail
        go_ret
        exact ⟨by simp [hq], HB5.out⟩
    · go_region_held3 (fun W' => W'.cell? ⟨w.heap.size, 2, none⟩ = some (.bool false) ∧ W'.cell? ⟨w.heap.size, 3, none⟩ = some (.int .i64 p0) ∧ W'.cell? ⟨X, 0, none⟩ = some (.string s) ∧ W'.cell? ⟨X, 1, none⟩ = some (.slice A n c) ∧ Below W0.heap.size W0 W') (first | assumption | exact hd | exact MxS.next (by assumption) (by assumption))
        (first
          | (go_at_call 75; refine Calls.mono (HK.out _ (bthen HB0.out (And.right (And.right (And.right (And.right (by assumption))))))) ?_; rintro r w2 ⟨rfl, hb2⟩))
      all_goals
        have HB5 := Lib.hid (bthen HB0.out (And.right (And.right (And.right (And.right (by assumption))))))
        go_wp2_with fail
        go_ret
        exact ⟨by simp [hq], HB5.out⟩
    · go_region_held3 (fun W' => W'.cell? ⟨w.heap.size, 2, none⟩ = some (.bool true) ∧ W'.cell? ⟨w.heap.size, 3, none⟩ = some (.int .i64 p0) ∧ W'.cell? ⟨X, 0, none⟩ = some (.string s) ∧ W'.cell? ⟨X, 1, none⟩ = some (.slice A n c) ∧ Below W0.heap.size W0 W') (first | assumption | exact hd | exact MxS.next (by assumption) (by assumption))
        (first
          | (go_at_call 75; refine Calls.mono (HK.out _ (bthen HB0.out (And.right (And.right (And.right (And.right (by assumption))))))) ?_; rintro r w2 ⟨rfl, hb2⟩))
      all_goals
        have HB5 := Lib.hid (bthen HB0.out (And.right (And.right (And.right (And.right (by assumption))))))
        go_wp2_with fail
        go_ret
        exact ⟨by simp [hq], HB5.out⟩
    · go_region_held3 (fun W' => W'.cell? ⟨w.heap.size, 2, none⟩ = some (.bool true) ∧ W'.cell? ⟨w.heap.size, 3, none⟩ = some (.int .i64 p0) ∧ W'.cell? ⟨X, 0, none⟩ = some (.string s) ∧ W'.cell? ⟨X, 1, none⟩ = some (.slice A n c) ∧ Below W0.heap.size W0 W') (first | assumption | exact hd | exact MxS.next (by assumption) (by assumption))
        (first
          | (go_at_call 75; refine Calls.mono (HK.out _ (bthen HB0.out (And.right (And.right (And.right (And.right (by assumption))))))) ?_; rintro r w2 ⟨rfl, hb2⟩))
      all_goals
        have HB5 := Lib.hid (bthen HB0.out (And.right (And.right (And.right (And.right (by assumption))))))
        go_wp2_with fail
        go_ret
        exact ⟨by simp [hq], HB5.out⟩
def mixB (xs : List Ri) : Bool := match xs with
  | [] => false
  | y :: _ => xs.any (difB y)
theorem cf_mx : ∀ args U, (callFunc 106 args).run Try.prog U = .ok (.enter 106 args) U := fun _ _ => by kernel_rfl
set_option maxRecDepth 100000 in
theorem mixed_any (s : ByteArray) (y : Ri) (xs : List Ri) (A : Option Addr) (n c : Nat) (w : World) (hn : xs.length = n) (h9 : n ≤ 9223372036854775807) (hx : xs[0]? = some y) (hS : Ris w (.slice A n c) xs) :
    Calls Try.prog 91 #[.agg #[.string s, .slice A n c]] w fun e w' => e = .returned (.bool (xs.any (difB y))) ∧ Below w.heap.size w w' := by
  have HB0 := Lib.hid (balloc (Below.refl _ w) (.cells #[.string s, .slice A n c] 87))
  have hz := heap_alloc_new w (.cells #[.string s, .slice A n c] 87)
  have z0 := Lib.cell_of_heap hz 0
  have z1 := Lib.cell_of_heap hz 1
  simp only [List.getElem?_toArray, List.getElem?_cons_zero, List.getElem?_cons_succ] at z0 z1
  have HC := Lib.hid (has_any (difB y) 106 #[.pointer (some ⟨w.heap.size, 0, none⟩)] s xs A n c _ hn h9 (hS.next HB0.out) cf_mx
    (fun x _ V hV => mixed1_any s x y xs A n c w.heap.size V hn h9 hx (hS.next (bthen HB0.out hV)) ((cellNext (World.block_lt_of_cell? _ _ z0) hV _).trans z0) ((cellNext (World.block_lt_of_cell? _ _ z1) hV _).trans z1)))
  generalize xs.any (difB y) = B at *
  clear hn h9 hx hS hz z0 z1
  go_enter Try.func91, Try.ntmps91
  go_wp2_with fail
  refine HC.out.mono ?_
  rintro r w1 ⟨rfl, hb⟩
  have HB := Lib.hid (bthen HB0.out hb)
  clear hb
  go_wp2_with fail
  go_ret
  exact ⟨rfl, HB.out⟩
def twoB (xs : List Ri) : Bool := xs.any seB && (xs.drop (xs.findIdx seB + 1)).any seB
theorem rowOf_drop {α : Type} {sz : Nat} {P : World → Nat → Nat → α → Prop} {W : World} {A : Option Addr} {n c i : Nat} {l : List α} (h : RowOf sz P W (.slice A n c) l) (hi : i ≤ n) (hc : n ≤ c) : RowOf sz P W (.slice (if c = i then A else Option.map (fun x => x.add (i * sz)) A) (n - i) (c - i)) (l.drop i) := by
  have hn : l.length = n := RowOf.len h
  by_cases h0 : i < n
  · rw [if_neg (by omega)]
    rcases h with ⟨rfl, -⟩ | ⟨_, b, off, cap, e, h1, h2⟩
    · simp at hn; omega
    · have e2 := Value.slice.inj e
      obtain ⟨rfl, -, rfl⟩ := e2
      refine .inr ⟨by rw [List.length_drop]; omega, b, off + i * sz, c - i, ?_, h1, fun j hj => ?_⟩
      · rw [List.length_drop, hn, Option.map_some, int_add]
      rw [List.length_drop] at hj
      rw [List.getElem_drop]
      have q := h2 (i + j) (by omega)
      rwa [show off + (i + j) * sz = off + i * sz + j * sz by rw [Nat.add_mul]; omega] at q
  · have hi0 : i = n := by omega
    subst hi0
    have hd : l.drop i = [] := by rw [← hn]; exact List.drop_length
    rw [hd, Nat.sub_self]
    refine .inl ⟨rfl, ?_⟩
    have hA : A = none → c = 0 := by
      intro hA
      rcases h with ⟨_, h | ⟨a, cap, h⟩⟩ | ⟨_, b, off, cap, e, h1, h2⟩
      · exact (Value.slice.inj h).2.2
      · exact absurd (hA.symm.trans (Value.slice.inj h).1) (by simp)
      · exact absurd (hA.symm.trans (Value.slice.inj e).1) (by simp)
    cases A with
    | none =>
      have e := hA rfl
      subst e
      left
      split <;> simp
    | some a =>
      right
      by_cases hci : c = i
      · rw [if_pos hci]; exact ⟨_, _, rfl⟩
      · rw [if_neg hci]; exact ⟨_, _, rfl⟩
set_option maxRecDepth 100000 in
theorem twice_any (s : ByteArray) (xs : List Ri) (A : Option Addr) (n c : Nat) (w : World) (hn : xs.length = n) (h9 : n ≤ 9223372036854775807) (hc : n ≤ c) (hS : Ris w (.slice A n c) xs) :
    Calls Try.prog 90 #[.agg #[.string s, .slice A n c]] w fun e w' => e = .returned (.bool (twoB xs)) ∧ Below w.heap.size w w' := by
  have HI := Lib.hid (fun (U : World) (hU : Below w.heap.size w U) => indexR_any seB _ #[] xs A n c U hn h9 (hS.next hU) cf_se (fun x _ V _ => se_any x V))
  have HB0 := Lib.hid (balloc (Below.refl _ w) (.cells #[.string s, .slice A n c] 87))
  unfold twoB
  cases hb : xs.any seB with
  | false =>
    have e := idxI_no hb
    rw [e] at HI
    clear hn h9 hS e hb hc
    go_enter Try.func90, Try.ntmps90
    go_wp2_with fail
    refine (HI.out _ HB0.out).mono ?_
    rintro r w1 ⟨rfl, hb⟩
    have HB := Lib.hid (bthen HB0.out hb)
    clear hb
    go_wp2_with fail
    go_ret
    exact ⟨rfl, HB.out⟩
  | true =>
    obtain ⟨k, hk⟩ : ∃ k, xs.findIdx seB = k := ⟨_, rfl⟩
    have e : idxI seB xs = (k : Int) := by unfold idxI; rw [if_pos hb, hk]
    have hkl : k < xs.length := by rw [← hk]; exact List.findIdx_lt_length_of_exists (List.any_eq_true.1 hb)
    rw [e] at HI
    rw [hk]
    have HC := Lib.hid (fun (U : World) (hU : Below w.heap.size w U) => containsR_any seB _ #[] (xs.drop (k + 1)) _ _ _ U (by rw [List.length_drop, hn]) (by omega) (rowOf_drop (i := k + 1) (hS.next hU) (by omega) hc) cf_se (fun x _ V _ => se_any x V))
    generalize (xs.drop (k + 1)).any seB = B at *
    have n0 : (0 : Int) ≤ (k : Int) := Int.natCast_nonneg _
    have n1 : ((k : Int) + 1) ≤ (n : Int) := by omega
    have n2 : (n : Int) ≤ 9223372036854775807 := by omega
    have n3 : (n : Int) ≤ (c : Int) := by omega
    have n4 : ((k : Int) + 1) ≤ (c : Int) := by omega
    clear hn h9 hS e hb hk hkl
    by_cases hck : c = k + 1
    · subst hck
      rw [if_pos rfl, Nat.sub_self] at HC
      clear hc
      go_enter Try.func90, Try.ntmps90
      go_wp2_with fail
      refine (HI.out _ HB0.out).mono ?_
      rintro r w1 ⟨rfl, hb⟩
      have HB := Lib.hid (bthen HB0.out hb)
      have hx := (hb.block w.heap.size (by simp)).trans (heap_alloc_new w _)
      have q0 := Lib.cell_of_heap hx 0
      have q1 := Lib.cell_of_heap hx 1
      simp only [List.getElem?_toArray, List.getElem?_cons_zero, List.getElem?_cons_succ] at q0 q1
      clear hx hb
      go_wp2_with fail
      refine (HC.out _ HB.out).mono ?_
      rintro r w2 ⟨rfl, hb2⟩
      have HB2 := Lib.hid (bthen HB.out hb2)
      clear hb2
      go_wp2_with fail
      go_ret
      exact ⟨by simp, HB2.out⟩
    · rw [if_neg hck] at HC
      clear hc
      go_enter Try.func90, Try.ntmps90
      go_wp2_with fail
      refine (HI.out _ HB0.out).mono ?_
      rintro r w1 ⟨rfl, hb⟩
      have HB := Lib.hid (bthen HB0.out hb)
      have hx := (hb.block w.heap.size (by simp)).trans (heap_alloc_new w _)
      have q0 := Lib.cell_of_heap hx 0
      have q1 := Lib.cell_of_heap hx 1
      simp only [List.getElem?_toArray, List.getElem?_cons_zero, List.getElem?_cons_succ] at q0 q1
      clear hx hb
      go_wp2_with fail
      refine (HC.out _ HB.out).mono ?_
      rintro r w2 ⟨rfl, hb2⟩
      have HB2 := Lib.hid (bthen HB.out hb2)
      clear hb2
      go_wp2_with fail
      go_ret
      exact ⟨by simp, HB2.out⟩
end Go.Proofs.Ytniolkjeblocaaa

namespace Go.Proofs.Ytniolkjeblocaaa
open Go.RowKit

def wrV (b1 b2 b3 : Bool) (e : Int) : Int :=
  if (e == 0 || e == 11 || e == 8 || e == 9) && b3 then 10 else
  if (e == 0 || e == 11 || e == 8) && b2 then 9 else
  if (e == 0 || e == 11) && b1 then 8 else e
def wrE (xs : List Ri) (e : Int) : Int := wrV (misB xs) (twoB xs) (mixB xs) e
theorem mixB_at {xs : List Ri} {y : Ri} (h : xs[0]? = some y) : mixB xs = xs.any (difB y) := by
  match xs, h with
  | z :: zs, h =>
    have e : z = y := Option.some.inj h
    subst e
    rfl
set_option maxRecDepth 100000 in
set_option maxHeartbeats 4000000 in
theorem wrong_any (s : ByteArray) (y : Ri) (xs : List Ri) (A : Option Addr) (n c : Nat) (e : Int) (w : World) (he : e = 0 ∨ e = 11 ∨ e = 8 ∨ e = 9 ∨ e = 10) (hn : xs.length = n) (h9 : n ≤ 9223372036854775807) (hc : n ≤ c) (hx : xs[0]? = some y) (hS : Ris w (.slice A n c) xs) :
    Calls Try.prog 72 #[.agg #[.string s, .slice A n c], .int .i64 e] w fun e' w' => e' = .returned (.int .i64 (wrE xs e)) ∧ Below w.heap.size w w' := by
  have HBW := Lib.hid (balloc (Below.refl _ w) (.cells #[.string s, .slice A n c] 87))
  have H1 := Lib.hid (fun (U : World) (hU : Below (w.alloc (.cells #[.string s, .slice A n c] 87)).heap.size (w.alloc (.cells #[.string s, .slice A n c] 87)) U) => missing_any s xs A n c U hn h9 (hS.next (bthen HBW.out hU)))
  have H2 := Lib.hid (fun (U : World) (hU : Below (w.alloc (.cells #[.string s, .slice A n c] 87)).heap.size (w.alloc (.cells #[.string s, .slice A n c] 87)) U) => twice_any s xs A n c U hn h9 hc (hS.next (bthen HBW.out hU)))
  have H3 := Lib.hid (fun (U : World) (hU : Below (w.alloc (.cells #[.string s, .slice A n c] 87)).heap.size (w.alloc (.cells #[.string s, .slice A n c] 87)) U) => mixed_any s y xs A n c U hn h9 hx (hS.next (bthen HBW.out hU)))
  have HQ := Lib.hid (fun (U : World) (hU : Below (w.alloc (.cells #[.string s, .slice A n c] 87)).heap.size (w.alloc (.cells #[.string s, .slice A n c] 87)) U) => (show U.cell? ⟨w.heap.size, 0, none⟩ = some (.string s) ∧ U.cell? ⟨w.heap.size, 1, none⟩ = some (.slice A n c) from by
    have h := (hU.block w.heap.size (by simp)).trans (heap_alloc_new w _)
    exact ⟨Lib.cell_of_heap h 0, Lib.cell_of_heap h 1⟩))
  have HB0 := Lib.hid (Below.refl (w.alloc (.cells #[.string s, .slice A n c] 87)).heap.size (w.alloc (.cells #[.string s, .slice A n c] 87)))
  unfold wrE
  rw [mixB_at hx]
  generalize misB xs = b1 at *
  generalize twoB xs = b2 at *
  generalize xs.any (difB y) = b3 at *
  clear hn h9 hc hx hS
  rcases he with rfl | rfl | rfl | rfl | rfl
  · cases b1 <;> cases b2 <;> cases b3
    all_goals
      go_enter Try.func72, Try.ntmps72
      go_wp2_with fail
      refine (H1.out _ HB0.out).mono ?_
      rintro r w1 ⟨rfl, hb⟩
      have HBw1 := Lib.hid (bthen HB0.out hb)
      obtain ⟨q0, q1⟩ := HQ.out _ HBw1.out
      clear hb
      go_wp2_with fail
      refine (H2.out _ HBw1.out).mono ?_
      rintro r w2 ⟨rfl, hb⟩
      have HBw2 := Lib.hid (bthen HBw1.out hb)
      obtain ⟨q0, q1⟩ := HQ.out _ HBw2.out
      clear hb
      go_wp2_with fail
      refine (H3.out _ HBw2.out).mono ?_
      rintro r w3 ⟨rfl, hb⟩
      have HBw3 := Lib.hid (bthen HBw2.out hb)
      obtain ⟨q0, q1⟩ := HQ.out _ HBw3.out
      clear hb
      go_wp2_with fail
      go_ret
      exact ⟨rfl, bthen HBW.out HBw3.out⟩
  · cases b1 <;> cases b2 <;> cases b3
    all_goals
      go_enter Try.func72, Try.ntmps72
      go_wp2_with fail
      refine (H1.out _ HB0.out).mono ?_
      rintro r w1 ⟨rfl, hb⟩
      have HBw1 := Lib.hid (bthen HB0.out hb)
      obtain ⟨q0, q1⟩ := HQ.out _ HBw1.out
      clear hb
      go_wp2_with fail
      refine (H2.out _ HBw1.out).mono ?_
      rintro r w2 ⟨rfl, hb⟩
      have HBw2 := Lib.hid (bthen HBw1.out hb)
      obtain ⟨q0, q1⟩ := HQ.out _ HBw2.out
      clear hb
      go_wp2_with fail
      refine (H3.out _ HBw2.out).mono ?_
      rintro r w3 ⟨rfl, hb⟩
      have HBw3 := Lib.hid (bthen HBw2.out hb)
      obtain ⟨q0, q1⟩ := HQ.out _ HBw3.out
      clear hb
      go_wp2_with fail
      go_ret
      exact ⟨rfl, bthen HBW.out HBw3.out⟩
  · cases b2 <;> cases b3
    all_goals
      go_enter Try.func72, Try.ntmps72
      go_wp2_with fail
      refine (H2.out _ HB0.out).mono ?_
      rintro r w1 ⟨rfl, hb⟩
      have HBw1 := Lib.hid (bthen HB0.out hb)
      obtain ⟨q0, q1⟩ := HQ.out _ HBw1.out
      clear hb
      go_wp2_with fail
      refine (H3.out _ HBw1.out).mono ?_
      rintro r w2 ⟨rfl, hb⟩
      have HBw2 := Lib.hid (bthen HBw1.out hb)
      obtain ⟨q0, q1⟩ := HQ.out _ HBw2.out
      clear hb
      go_wp2_with fail
      go_ret
      exact ⟨rfl, bthen HBW.out HBw2.out⟩
  · cases b3
    all_goals
      go_enter Try.func72, Try.ntmps72
      go_wp2_with fail
      refine (H3.out _ HB0.out).mono ?_
      rintro r w1 ⟨rfl, hb⟩
      have HBw1 := Lib.hid (bthen HB0.out hb)
      obtain ⟨q0, q1⟩ := HQ.out _ HBw1.out
      clear hb
      go_wp2_with fail
      go_ret
      exact ⟨rfl, bthen HBW.out HBw1.out⟩
  · go_enter Try.func72, Try.ntmps72
    go_wp2_with fail
    go_ret
    exact ⟨rfl, bthen HBW.out HB0.out⟩
end Go.Proofs.Ytniolkjeblocaaa

namespace Go.Proofs.Ytniolkjeblocaaa
open Go.RowKit

/-- which item is taken -/
def pickI (xs : List Ri) : Nat := if xs.any seB then xs.findIdx seB else if xs.any dfB then xs.findIdx dfB else 0
theorem step_store_rowR {P : Program} {w : World} {ops : Array Oper} {o : Oper} {a : Act} {K : Act → World → Prop} {Q : Exit → Act → World → Prop} {E : Prop} (hgd : o.guard = none) (ty : TypeId) (x y : Operand) (ho : o.op = .store ty x y)
    (g : Nat) (cells : Array Value) (hx : a.eval x = .pointer (some ⟨g, 0, none⟩)) (hy : a.eval y = .agg cells)
    (t : TypeId) (old : Array Value) (hg : w.heap[g]? = some (.cells old t (0, 0))) (hi : (P.info? ty).map (·.size) = some cells.size)
    (hold : old.size = cells.size) (h1 : cells.all (·.oneCell') = true)
    (h : K (a.put o.dst undef) (w.setRow g cells)) : if Region.wanted o (yielded ops a.tmps) = true then Oper.wp P o a w K Q else E := by
  have hw : Region.wanted o (yielded ops a.tmps) = true := by simp [Region.wanted, hgd]
  rw [if_pos hw]
  exact wp_store_row ty x y ho g cells hx hy t old hg hi hold h1 h
theorem heap_set5 (w : World) (g : Nat) (a b c d e v : Value) (t : TypeId) (h : w.heap[g]? = some (.cells #[a, b, c, d, e] t (0, 0))) : (w.setCell ⟨g, 1, none⟩ v).heap[g]? = some (.cells #[a, v, c, d, e] t (0, 0)) := by
  unfold World.setCell
  simp [Array.getElem?_modify, h]
theorem pick_at {xs : List Ri} {V : Int} {bd bs : Bool} (hl : 0 < xs.length) (hV : idxI dfB xs = V) (hbd : xs.any dfB = bd) (hbs : xs.any seB = bs) :
    ∃ k, pickI xs = k ∧ k < xs.length ∧ (bs = true → idxI seB xs = (k : Int)) ∧ (bs = false → bd = true → V = (k : Int)) ∧ (bs = false → bd = false → V = -1 ∧ k = 0) := by
  refine ⟨_, rfl, ?_, ?_, ?_, ?_⟩
  · unfold pickI
    split
    · rename_i h; exact List.findIdx_lt_length_of_exists (List.any_eq_true.1 h)
    · split
      · rename_i h; exact List.findIdx_lt_length_of_exists (List.any_eq_true.1 h)
      · exact hl
  · intro h
    subst h
    unfold idxI pickI
    rw [hbs]
    rfl
  · intro h1 h2
    subst h1 h2
    rw [← hV]
    unfold idxI pickI
    rw [hbs, hbd]
    rfl
  · intro h1 h2
    subst h1 h2
    refine ⟨by rw [← hV]; exact idxI_no hbd, ?_⟩
    unfold pickI
    rw [hbs, hbd]
    rfl
theorem def_info : (Try.prog.info? 49).map (·.size) = some 5 := by kernel_rfl
theorem kind_fld (a b : Value) (U : World) : (Instr.field 128 (.agg #[a, b]) 0).run Try.prog U = .ok a U := by kernel_rfl
set_option maxRecDepth 100000 in
set_option maxHeartbeats 4000000 in
theorem def_any (s : ByteArray) (y : Ri) (xs : List Ri) (A : Option Addr) (n c : Nat) (w : World) (hn : xs.length = n) (h9 : n ≤ 9223372036854775807) (hx : xs[0]? = some y) (hS : Ris w (.slice A n c) xs) :
    Calls Try.prog 48 #[.agg #[.string s, .slice A n c]] w fun e' w' => (∃ z, xs[pickI xs]? = some z ∧ e' = .returned (.agg #[.string s, .int .i64 z.o, .bool y.f, .bool (!xs.any seB), .bool (xs.any dfB)])) ∧ Below w.heap.size w w' := by
  have hl : 0 < xs.length := (List.getElem?_eq_some_iff.1 hx).1
  have HI := Lib.hid (fun (U : World) (hU : Below w.heap.size w U) => indexR_any seB _ #[] xs A n c U hn h9 (hS.next hU) cf_se (fun x _ V _ => se_any x V))
  have HD := Lib.hid (fun (U : World) (hU : Below w.heap.size w U) => indexR_any dfB _ #[] xs A n c U hn h9 (hS.next hU) cf_df (fun x _ V _ => df_any x V))
  have HK := Lib.hid (fun (U : World) (hU : Below w.heap.size w U) => kind_any s y xs A n c U hn h9 hx (hS.next hU))
  have HH := Lib.hid (fun (U : World) (hU : Below w.heap.size w U) => has_any seB _ #[] s xs A n c U hn h9 (hS.next hU) cf_se (fun x _ V _ => se_any x V))
  obtain ⟨V, hV⟩ : ∃ V, idxI dfB xs = V := ⟨_, rfl⟩
  have hD : decide (0 ≤ V) = xs.any dfB := by rw [← hV]; exact idxI_pos _ _
  rw [hV] at HD
  obtain ⟨bd, hbd⟩ : ∃ bd, xs.any dfB = bd := ⟨_, rfl⟩
  obtain ⟨bs, hbs⟩ : ∃ bs, xs.any seB = bs := ⟨_, rfl⟩
  rw [hbd] at hD ⊢
  rw [hbs] at HH ⊢
  have HP := Lib.hid (pick_at hl hV hbd hbs)
  clear hV hbd hbs
  obtain ⟨B, hB⟩ : ∃ B, w.heap.size = B := ⟨_, rfl⟩
  obtain ⟨W0, hW0⟩ : ∃ W0, W0 = (w.alloc (.cells #[.string s, .slice A n c] 87)).alloc (.cells #[.string ⟨#[]⟩, .int .i64 0, .bool false, .bool false, .bool false] 49) := ⟨_, rfl⟩
  have HB0 := Lib.hid (show Below w.heap.size w W0 from hW0 ▸ balloc (balloc (Below.refl _ w) _) _)
  have hsz : W0.heap.size = B + 2 := by rw [hW0, ← hB]; simp
  have hz0 : W0.heap[B]? = some (.cells #[.string s, .slice A n c] 87 (0, 0)) := by
    rw [hW0, ← hB]
    rw [Lib.alloc_old _ _ _ (by simp)]
    exact heap_alloc_new _ _
  have hz1 : W0.heap[B + 1]? = some (.cells #[.string ⟨#[]⟩, .int .i64 0, .bool false, .bool false, .bool false] 49 (0, 0)) := by
    have h := heap_alloc_new (w.alloc (.cells #[.string s, .slice A n c] 87)) (.cells #[.string ⟨#[]⟩, .int .i64 0, .bool false, .bool false, .bool false] 49)
    rw [show (w.alloc (.cells #[.string s, .slice A n c] 87)).heap.size = B + 1 by simp [hB], ← hW0] at h
    exact h
  have HQ := Lib.hid (fun (U : World) (hU : Below W0.heap.size W0 U) => (show U.cell? ⟨B, 0, none⟩ = some (.string s) ∧ U.cell? ⟨B, 1, none⟩ = some (.slice A n c) from by
    have h := (hU.block B (by omega)).trans hz0
    exact ⟨Lib.cell_of_heap h 0, Lib.cell_of_heap h 1⟩))
  have HBL := Lib.hid (show w.heap.size ≤ B + 1 by omega)
  have HZ := Lib.hid (fun (U : World) (hU : Below W0.heap.size W0 U) => (hU.block (B + 1) (by omega)).trans hz1)
  go_enter Try.func48, Try.ntmps48
  go_wp2_with fail
  rw [← hW0]
  clear hz0 hz1 hW0
  refine (HD.out _ HB0.out).mono ?_
  rintro r w1 ⟨rfl, hb1⟩
  have HB1 := Lib.hid hb1
  obtain ⟨q0, q1⟩ := HQ.out _ hb1
  clear hb1
  have hfl : ∀ U : World, (Instr.field 128 (.agg #[.bool y.f, .int .i64 y.p]) 0).run Try.prog U = .ok (.bool y.f) U := fun U => kind_fld _ _ U
  go_upto_region 2 with fail
  go_cut [4] from 8 to 18 (fun v4 wx => ∃ D, v4 = .pointer (some ⟨D, 0, none⟩) ∧ W0.heap.size ≤ D ∧ wx.heap[D]? = some (.cells #[.string s, .int .i64 0, .bool y.f, .bool (!bs), .bool bd] 49 (0, 0)) ∧ Below W0.heap.size W0 wx)
  case first =>
    refine wp_region_held_drew (S := (fun U => U.cell? ⟨B, 0, none⟩ = some (.string s) ∧ U.cell? ⟨B, 1, none⟩ = some (.slice A n c))) (by kernel_rfl) (HQ.out _ (bthen HB1.out (Below.refl _ w1).drew)) (fun hHeld => ?_)
    have hub := bthen HB1.out (Below.refl _ w1).drew
    refine wpAnyH_take (i := 0) (v := ?_) rfl (by kernel_rfl) (by kernel_rfl) (by kernel_rfl) (fun _ _ _ h => h) (Or.inl ⟨by rfl, ?_⟩) hHeld ?_
    rotate_left
    · intro W' hSw; (try dsimp only at hSw); go_simp; try (with_reducible rfl)
    (try simp only [Act.put, List.getElem_toArray, List.getElem_cons_zero, List.setIfInBounds_toArray, List.set_cons_zero, List.set_cons_succ])
    refine wpAnyH_take (i := 1) (v := ?_) rfl (by kernel_rfl) (by kernel_rfl) (by kernel_rfl) (fun _ _ _ h => h) (Or.inl ⟨by rfl, ?_⟩) hHeld ?_
    rotate_left
    · intro W' hSw; (try dsimp only at hSw); go_simp; try (with_reducible rfl)
    (try simp only [Act.put, List.getElem_toArray, List.getElem_cons_zero, List.getElem_cons_succ, List.setIfInBounds_toArray, List.set_cons_zero, List.set_cons_succ])
    refine wpAnyH_take (i := 2) (v := ?_) rfl (by kernel_rfl) (by kernel_rfl) (by kernel_rfl) (fun _ _ _ h => h) (Or.inl ⟨by rfl, ?_⟩) hHeld ?_
    rotate_left
    · intro W' hSw; (try dsimp only at hSw); go_simp; try (with_reducible rfl)
    (try simp only [Act.put, List.getElem_toArray, List.getElem_cons_zero, List.getElem_cons_succ, List.setIfInBounds_toArray, List.set_cons_zero, List.set_cons_succ])
    refine wpAnyH_take (i := 5) (v := ?_) rfl (by kernel_rfl) (by kernel_rfl) (by kernel_rfl) (fun _ _ _ h => h) (Or.inl ⟨by rfl, ?_⟩) hHeld ?_
    rotate_left
    · intro W' hSw; (try dsimp only at hSw); go_simp; try (with_reducible rfl)
    (try simp only [Act.put, List.getElem_toArray, List.getElem_cons_zero, List.getElem_cons_succ, List.setIfInBounds_toArray, List.set_cons_zero, List.set_cons_succ])
    refine wpAnyH_take (i := 6) (v := ?_) rfl (by kernel_rfl) (by kernel_rfl) (by kernel_rfl) (fun _ _ _ h => h) (Or.inl ⟨by rfl, ?_⟩) hHeld ?_
    rotate_left
    · intro W' hSw; (try dsimp only at hSw); go_simp; try (with_reducible rfl)
    (try simp only [Act.put, List.getElem_toArray, List.getElem_cons_zero, List.getElem_cons_succ, List.setIfInBounds_toArray, List.set_cons_zero, List.set_cons_succ])
    refine wpAnyH_take (i := 7) (v := ?_) rfl (by kernel_rfl) (by kernel_rfl) (by kernel_rfl) (fun _ _ _ h => h) (Or.inl ⟨by rfl, ?_⟩) hHeld ?_
    rotate_left
    · intro W' hSw; (try dsimp only at hSw); go_simp; try (with_reducible rfl)
    (try simp only [Act.put, List.getElem_toArray, List.getElem_cons_zero, List.getElem_cons_succ, List.setIfInBounds_toArray, List.set_cons_zero, List.set_cons_succ])
    refine wpAnyH_ready (rs := [3, 11]) (by kernel_rfl) (by simp) ?_
    refine AllReadyH.cons rfl (fun K hK => ?_) (AllReadyH.cons rfl (fun K hK => ?_) AllReadyH.nil)
    · go_simp
      refine Calls.mono (HK.out _ (bthen HB0.out hub)) ?_
      rintro r u3 ⟨rfl, hb⟩
      have hub := bthen hub hb
      clear hb
      refine hK.out _ _ (HQ.out _ hub) (fun hHeld => ?_)
      clear hK
      (try simp only [Act.put, List.getElem_toArray, List.getElem_cons_zero, List.getElem_cons_succ, List.setIfInBounds_toArray, List.set_cons_zero, List.set_cons_succ])
      refine wpAnyH_take (i := 4) (v := ?_) rfl (by kernel_rfl) (by kernel_rfl) (by kernel_rfl) (fun _ _ _ h => h) (Or.inl ⟨by rfl, ?_⟩) hHeld ?_
      rotate_left
      · intro W' hSw; (try dsimp only at hSw); go_simp; try (with_reducible rfl)
      (try simp only [Act.put, List.getElem_toArray, List.getElem_cons_zero, List.getElem_cons_succ, List.setIfInBounds_toArray, List.set_cons_zero, List.set_cons_succ])
      refine wpAnyH_ready (rs := [8, 11]) (by kernel_rfl) (by simp) ?_
      refine AllReadyH.cons rfl (fun K hK => ?_) (AllReadyH.cons rfl (fun K hK => ?_) AllReadyH.nil)
      · go_simp
        refine Calls.mono (HH.out _ (bthen HB0.out hub)) ?_
        rintro r u8 ⟨rfl, hb⟩
        have hub := bthen hub hb
        clear hb
        refine hK.out _ _ (HQ.out _ hub) (fun hHeld => ?_)
        clear hK
        (try simp only [Act.put, List.getElem_toArray, List.getElem_cons_zero, List.getElem_cons_succ, List.setIfInBounds_toArray, List.set_cons_zero, List.set_cons_succ])
        refine wpAnyH_take (i := 9) (v := ?_) rfl (by kernel_rfl) (by kernel_rfl) (by kernel_rfl) (fun _ _ _ h => h) (Or.inl ⟨by rfl, ?_⟩) hHeld ?_
        rotate_left
        · intro W' hSw; (try dsimp only at hSw); go_simp; try (with_reducible rfl)
        (try simp only [Act.put, List.getElem_toArray, List.getElem_cons_zero, List.getElem_cons_succ, List.setIfInBounds_toArray, List.set_cons_zero, List.set_cons_succ])
        refine wpAnyH_take (i := 10) (v := ?_) rfl (by kernel_rfl) (by kernel_rfl) (by kernel_rfl) (fun _ _ _ h => h) (Or.inl ⟨by rfl, ?_⟩) hHeld ?_
        rotate_left
        · intro W' hSw; (try dsimp only at hSw); go_simp; try (with_reducible rfl)
        (try simp only [Act.put, List.getElem_toArray, List.getElem_cons_zero, List.getElem_cons_succ, List.setIfInBounds_toArray, List.set_cons_zero, List.set_cons_succ])
        refine wpAnyH_ready (rs := [11]) (by kernel_rfl) (by simp) ?_
        refine AllReadyH.cons rfl (fun K hK => ?_) AllReadyH.nil
        go_simp
        have hz := heap_alloc_new u8 (.cells #[.string ⟨#[]⟩, .int .i64 0, .bool false, .bool false, .bool false] 49)
        have hle : W0.heap.size ≤ u8.heap.size := hub.size
        have hub := bthen hub (balloc (Below.refl _ u8) (.cells #[.string ⟨#[]⟩, .int .i64 0, .bool false, .bool false, .bool false] 49))
        refine hK.out _ _ (HQ.out _ hub) (fun hHeld => ?_)
        clear hK
        (try simp only [Act.put, List.getElem_toArray, List.getElem_cons_zero, List.getElem_cons_succ, List.setIfInBounds_toArray, List.set_cons_zero, List.set_cons_succ])
        refine wpAnyH_ready (rs := [12]) (by kernel_rfl) (by simp) ?_
        refine AllReadyH.cons rfl (fun K hK => ?_) AllReadyH.nil
        refine step_store_rowR rfl _ _ _ rfl _ #[.string s, .int .i64 0, .bool y.f, .bool (!bs), .bool bd] (by rfl) (by rfl) _ _ hz def_info rfl (by simp [Value.oneCell']) ?_
        refine hK.out _ _ (HQ.out _ (below_setRowp hub hle)) (fun hHeld => ?_)
        clear hK
        (try simp only [Act.put, List.getElem_toArray, List.getElem_cons_zero, List.getElem_cons_succ])
        refine wpAnyH_done (by kernel_rfl) ?_ _
        go_wp2_with fail
        go_meet
        exact ⟨_, rfl, hle, setRow_heap _ _ _ _ _ _ hz, below_setRowp hub hle⟩
      · go_simp
        have hz := heap_alloc_new u3 (.cells #[.string ⟨#[]⟩, .int .i64 0, .bool false, .bool false, .bool false] 49)
        have hle : W0.heap.size ≤ u3.heap.size := hub.size
        have hub := bthen hub (balloc (Below.refl _ u3) (.cells #[.string ⟨#[]⟩, .int .i64 0, .bool false, .bool false, .bool false] 49))
        refine hK.out _ _ (HQ.out _ hub) (fun hHeld => ?_)
        clear hK
        (try simp only [Act.put, List.getElem_toArray, List.getElem_cons_zero, List.getElem_cons_succ, List.setIfInBounds_toArray, List.set_cons_zero, List.set_cons_succ])
        refine wpAnyH_ready (rs := [8]) (by kernel_rfl) (by simp) ?_
        refine AllReadyH.cons rfl (fun K hK => ?_) AllReadyH.nil
        go_simp
        refine Calls.mono (HH.out _ (bthen HB0.out hub)) ?_
        rintro r u8 ⟨rfl, hb⟩
        have hz := (hb.block _ (Array.getElem?_eq_some_iff.1 hz).1).trans hz
        have hub := bthen hub hb
        clear hb
        refine hK.out _ _ (HQ.out _ hub) (fun hHeld => ?_)
        clear hK
        (try simp only [Act.put, List.getElem_toArray, List.getElem_cons_zero, List.getElem_cons_succ, List.setIfInBounds_toArray, List.set_cons_zero, List.set_cons_succ])
        refine wpAnyH_take (i := 9) (v := ?_) rfl (by kernel_rfl) (by kernel_rfl) (by kernel_rfl) (fun _ _ _ h => h) (Or.inl ⟨by rfl, ?_⟩) hHeld ?_
        rotate_left
        · intro W' hSw; (try dsimp only at hSw); go_simp; try (with_reducible rfl)
        (try simp only [Act.put, List.getElem_toArray, List.getElem_cons_zero, List.getElem_cons_succ, List.setIfInBounds_toArray, List.set_cons_zero, List.set_cons_succ])
        refine wpAnyH_take (i := 10) (v := ?_) rfl (by kernel_rfl) (by kernel_rfl) (by kernel_rfl) (fun _ _ _ h => h) (Or.inl ⟨by rfl, ?_⟩) hHeld ?_
        rotate_left
        · intro W' hSw; (try dsimp only at hSw); go_simp; try (with_reducible rfl)
        (try simp only [Act.put, List.getElem_toArray, List.getElem_cons_zero, List.getElem_cons_succ, List.setIfInBounds_toArray, List.set_cons_zero, List.set_cons_succ])
        refine wpAnyH_ready (rs := [12]) (by kernel_rfl) (by simp) ?_
        refine AllReadyH.cons rfl (fun K hK => ?_) AllReadyH.nil
        refine step_store_rowR rfl _ _ _ rfl _ #[.string s, .int .i64 0, .bool y.f, .bool (!bs), .bool bd] (by rfl) (by rfl) _ _ hz def_info rfl (by simp [Value.oneCell']) ?_
        refine hK.out _ _ (HQ.out _ (below_setRowp hub hle)) (fun hHeld => ?_)
        clear hK
        (try simp only [Act.put, List.getElem_toArray, List.getElem_cons_zero, List.getElem_cons_succ])
        refine wpAnyH_done (by kernel_rfl) ?_ _
        go_wp2_with fail
        go_meet
        exact ⟨_, rfl, hle, setRow_heap _ _ _ _ _ _ hz, below_setRowp hub hle⟩
    · go_simp
      have hz := heap_alloc_new w1.drew (.cells #[.string ⟨#[]⟩, .int .i64 0, .bool false, .bool false, .bool false] 49)
      have hle : W0.heap.size ≤ w1.drew.heap.size := hub.size
      have hub := bthen hub (balloc (Below.refl _ w1.drew) (.cells #[.string ⟨#[]⟩, .int .i64 0, .bool false, .bool false, .bool false] 49))
      refine hK.out _ _ (HQ.out _ hub) (fun hHeld => ?_)
      clear hK
      (try simp only [Act.put, List.getElem_toArray, List.getElem_cons_zero, List.getElem_cons_succ, List.setIfInBounds_toArray, List.set_cons_zero, List.set_cons_succ])
      refine wpAnyH_ready (rs := [3]) (by kernel_rfl) (by simp) ?_
      refine AllReadyH.cons rfl (fun K hK => ?_) AllReadyH.nil
      go_simp
      refine Calls.mono (HK.out _ (bthen HB0.out hub)) ?_
      rintro r u3 ⟨rfl, hb⟩
      have hz := (hb.block _ (Array.getElem?_eq_some_iff.1 hz).1).trans hz
      have hub := bthen hub hb
      clear hb
      refine hK.out _ _ (HQ.out _ hub) (fun hHeld => ?_)
      clear hK
      (try simp only [Act.put, List.getElem_toArray, List.getElem_cons_zero, List.getElem_cons_succ, List.setIfInBounds_toArray, List.set_cons_zero, List.set_cons_succ])
      refine wpAnyH_take (i := 4) (v := ?_) rfl (by kernel_rfl) (by kernel_rfl) (by kernel_rfl) (fun _ _ _ h => h) (Or.inl ⟨by rfl, ?_⟩) hHeld ?_
      rotate_left
      · intro W' hSw; (try dsimp only at hSw); go_simp; try (with_reducible rfl)
      (try simp only [Act.put, List.getElem_toArray, List.getElem_cons_zero, List.getElem_cons_succ, List.setIfInBounds_toArray, List.set_cons_zero, List.set_cons_succ])
      refine wpAnyH_ready (rs := [8]) (by kernel_rfl) (by simp) ?_
      refine AllReadyH.cons rfl (fun K hK => ?_) AllReadyH.nil
      go_simp
      refine Calls.mono (HH.out _ (bthen HB0.out hub)) ?_
      rintro r u8 ⟨rfl, hb⟩
      have hz := (hb.block _ (Array.getElem?_eq_some_iff.1 hz).1).trans hz
      have hub := bthen hub hb
      clear hb
      refine hK.out _ _ (HQ.out _ hub) (fun hHeld => ?_)
      clear hK
      (try simp only [Act.put, List.getElem_toArray, List.getElem_cons_zero, List.getElem_cons_succ, List.setIfInBounds_toArray, List.set_cons_zero, List.set_cons_succ])
      refine wpAnyH_take (i := 9) (v := ?_) rfl (by kernel_rfl) (by kernel_rfl) (by kernel_rfl) (fun _ _ _ h => h) (Or.inl ⟨by rfl, ?_⟩) hHeld ?_
      rotate_left
      · intro W' hSw; (try dsimp only at hSw); go_simp; try (with_reducible rfl)
      (try simp only [Act.put, List.getElem_toArray, List.getElem_cons_zero, List.getElem_cons_succ, List.setIfInBounds_toArray, List.set_cons_zero, List.set_cons_succ])
      refine wpAnyH_take (i := 10) (v := ?_) rfl (by kernel_rfl) (by kernel_rfl) (by kernel_rfl) (fun _ _ _ h => h) (Or.inl ⟨by rfl, ?_⟩) hHeld ?_
      rotate_left
      · intro W' hSw; (try dsimp only at hSw); go_simp; try (with_reducible rfl)
      (try simp only [Act.put, List.getElem_toArray, List.getElem_cons_zero, List.getElem_cons_succ, List.setIfInBounds_toArray, List.set_cons_zero, List.set_cons_succ])
      refine wpAnyH_ready (rs := [12]) (by kernel_rfl) (by simp) ?_
      refine AllReadyH.cons rfl (fun K hK => ?_) AllReadyH.nil
      refine step_store_rowR rfl _ _ _ rfl _ #[.string s, .int .i64 0, .bool y.f, .bool (!bs), .bool bd] (by rfl) (by rfl) _ _ hz def_info rfl (by simp [Value.oneCell']) ?_
      refine hK.out _ _ (HQ.out _ (below_setRowp hub hle)) (fun hHeld => ?_)
      clear hK
      (try simp only [Act.put, List.getElem_toArray, List.getElem_cons_zero, List.getElem_cons_succ])
      refine wpAnyH_done (by kernel_rfl) ?_ _
      go_wp2_with fail
      go_meet
      exact ⟨_, rfl, hle, setRow_heap _ _ _ _ _ _ hz, below_setRowp hub hle⟩
  case rest =>
    obtain ⟨D, rfl, hDl, hDh, hub⟩ := hcut
    obtain ⟨k, hpk, hkl, hp1, hp2, hp3⟩ := HP.out
    obtain ⟨b, off, hA, hbl, e0⟩ := RowOf.at_ hS hkl
    subst hA
    have HZC := Lib.hid (fun (U : World) (hU : Below W0.heap.size W0 U) => (cellNext hbl (bthen HB0.out hU) _).trans e0.2.1)
    have HXK := Lib.hid (show xs[pickI xs]? = some xs[k] by rw [hpk]; exact List.getElem?_eq_getElem hkl)
    obtain ⟨z, hz⟩ : ∃ z, xs[k] = z := ⟨_, rfl⟩
    rw [hz] at HZC HXK
    have k0 : (0 : Int) ≤ (k : Int) := Int.natCast_nonneg _
    have k1 : (k : Int) < (n : Int) := by omega
    have n9 : (n : Int) ≤ 9223372036854775807 := by omega
    cases bs with
    | true =>
      rw [hp1 rfl] at HI
      have d3 := Lib.cell_of_heap hDh 3
      simp only [List.getElem?_toArray, List.getElem?_cons_zero, List.getElem?_cons_succ] at d3
      obtain ⟨q0, q1⟩ := HQ.out _ hub
      have HUB := Lib.hid hub
      have HDH := Lib.hid hDh
      have HDL := Lib.hid hDl
      clear hx hS hl hn h9 hD hub hDh hDl hpk hkl hp1 hp2 hp3 hbl e0 hz HK HH HD HP
      go_wp2_with fail
      refine (HI.out _ (bthen HB0.out HUB.out)).mono ?_
      rintro r w4 ⟨rfl, hb4⟩
      have hDh := (hb4.block D (Array.getElem?_eq_some_iff.1 HDH.out).1).trans HDH.out
      have HUB4 := Lib.hid (bthen HUB.out hb4)
      have zc := HZC.out _ HUB4.out
      obtain ⟨q0, q1⟩ := HQ.out _ HUB4.out
      have d1 := Lib.cell_of_heap hDh 1
      simp only [List.getElem?_toArray, List.getElem?_cons_zero, List.getElem?_cons_succ] at d1
      have f1 : w4.frozen? ⟨D, 1, none⟩ = false := by simp [World.frozen?, hDh]
      have HDH4 := Lib.hid hDh
      clear hb4 hDh
      go_upto_region 6 with fail
      have HUB5 := Lib.hid (below_setc (a := ⟨D, 1, none⟩) (u := .int .i64 z.o) HUB4.out HDL.out)
      have HE := Lib.hid (heap_set5 _ D _ _ _ _ _ (.int .i64 z.o) _ HDH4.out)
      have HZ5 := Lib.hid (HZ.out _ HUB5.out)
      have HRES := Lib.hid (setRow_heap _ (B + 1) _ #[.string s, .int .i64 z.o, .bool y.f, .bool false, .bool bd] _ _ HZ5.out)
      have HFIN := Lib.hid (below_setRowp (cells := #[.string s, .int .i64 z.o, .bool y.f, .bool false, .bool bd]) (bthen HB0.out HUB5.out) HBL.out)
      go_wp2_with (first | (refine wpList_load_row rfl _ _ rfl D rfl _ #[.string s, .int .i64 z.o, .bool y.f, .bool false, .bool bd] _ _ HE.out Try.underlying49 rfl def_info ?_) | (refine wpList_store_row rfl _ _ _ rfl (B + 1) #[.string s, .int .i64 z.o, .bool y.f, .bool false, .bool bd] rfl rfl _ _ HZ5.out def_info rfl (by simp [Value.oneCell']) ?_))
      exact bodyPost_ret (results_cell_row Try.results48 _ _ _ _ #[.string s, .int .i64 z.o, .bool y.f, .bool false, .bool bd] _ _ rfl HRES.out Try.underlying49 rfl def_info) rfl ⟨⟨z, HXK.out, rfl⟩, HFIN.out⟩
    | false =>
      have d3 := Lib.cell_of_heap hDh 3
      have d1 := Lib.cell_of_heap hDh 1
      simp only [List.getElem?_toArray, List.getElem?_cons_zero, List.getElem?_cons_succ] at d3 d1
      have f1 : wc.frozen? ⟨D, 1, none⟩ = false := by simp [World.frozen?, hDh]
      obtain ⟨q0, q1⟩ := HQ.out _ hub
      have zc := HZC.out _ hub
      have HUB := Lib.hid hub
      have HDH := Lib.hid hDh
      have HDL := Lib.hid hDl
      cases bd with
      | true =>
        have hv := hp2 rfl rfl
        subst hv
        clear hx hS hl hn h9 hD hub hDh hDl hpk hkl hp1 hp2 hp3 hbl e0 hz HK HH HD HP HI
        go_upto_region 6 with fail
        have HUB5 := Lib.hid (below_setc (a := ⟨D, 1, none⟩) (u := .int .i64 z.o) HUB.out HDL.out)
        have HE := Lib.hid (heap_set5 _ D _ _ _ _ _ (.int .i64 z.o) _ HDH.out)
        have HZ5 := Lib.hid (HZ.out _ HUB5.out)
        have HRES := Lib.hid (setRow_heap _ (B + 1) _ #[.string s, .int .i64 z.o, .bool y.f, .bool true, .bool true] _ _ HZ5.out)
        have HFIN := Lib.hid (below_setRowp (cells := #[.string s, .int .i64 z.o, .bool y.f, .bool true, .bool true]) (bthen HB0.out HUB5.out) HBL.out)
        go_wp2_with (first | (refine wpList_load_row rfl _ _ rfl D rfl _ #[.string s, .int .i64 z.o, .bool y.f, .bool true, .bool true] _ _ HE.out Try.underlying49 rfl def_info ?_) | (refine wpList_store_row rfl _ _ _ rfl (B + 1) #[.string s, .int .i64 z.o, .bool y.f, .bool true, .bool true] rfl rfl _ _ HZ5.out def_info rfl (by simp [Value.oneCell']) ?_))
        exact bodyPost_ret (results_cell_row Try.results48 _ _ _ _ #[.string s, .int .i64 z.o, .bool y.f, .bool true, .bool true] _ _ rfl HRES.out Try.underlying49 rfl def_info) rfl ⟨⟨z, HXK.out, rfl⟩, HFIN.out⟩
      | false =>
        obtain ⟨hv, hk⟩ := hp3 rfl rfl
        subst hv
        subst hk
        clear hx hS hl hn h9 hD hub hDh hDl hpk hkl hp1 hp2 hp3 hbl e0 hz HK HH HD HP HI
        go_upto_region 6 with fail
        have HUB5 := Lib.hid (below_setc (a := ⟨D, 1, none⟩) (u := .int .i64 z.o) HUB.out HDL.out)
        have HE := Lib.hid (heap_set5 _ D _ _ _ _ _ (.int .i64 z.o) _ HDH.out)
        have HZ5 := Lib.hid (HZ.out _ HUB5.out)
        have HRES := Lib.hid (setRow_heap _ (B + 1) _ #[.string s, .int .i64 z.o, .bool y.f, .bool true, .bool false] _ _ HZ5.out)
        have HFIN := Lib.hid (below_setRowp (cells := #[.string s, .int .i64 z.o, .bool y.f, .bool true, .bool false]) (bthen HB0.out HUB5.out) HBL.out)
        go_wp2_with (first | (refine wpList_load_row rfl _ _ rfl D rfl _ #[.string s, .int .i64 z.o, .bool y.f, .bool true, .bool false] _ _ HE.out Try.underlying49 rfl def_info ?_) | (refine wpList_store_row rfl _ _ _ rfl (B + 1) #[.string s, .int .i64 z.o, .bool y.f, .bool true, .bool false] rfl rfl _ _ HZ5.out def_info rfl (by simp [Value.oneCell']) ?_))
        exact bodyPost_ret (results_cell_row Try.results48 _ _ _ _ #[.string s, .int .i64 z.o, .bool y.f, .bool true, .bool false] _ _ rfl HRES.out Try.underlying49 rfl def_info) rfl ⟨⟨z, HXK.out, rfl⟩, HFIN.out⟩
end Go.Proofs.Ytniolkjeblocaaa
