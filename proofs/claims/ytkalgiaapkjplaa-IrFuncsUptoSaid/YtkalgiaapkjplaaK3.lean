/- Package ir: is a function right? -/
import Derived.Test.YtkalgiaapkjplaaK2
import Derived.Test.YtkalgiaapkjplaaI2
namespace Go.Proofs.Ytkalgiaapkjplaa
open Go.RowKit

theorem funcB_eq (s : ByteArray) (b p : Int) (l : List Bk) : funcB ⟨s, b, p, l⟩ = (nameB s && (decide (1 ≤ b) && decide (b ≤ 3)) && (decide (0 ≤ p) && decide (p ≤ 6)) && decide (l.length ≤ 16) &&
    (match l with | [] => !(b == 1) | c :: _ => c.p == p && l.all (blockB l))) := rfl
theorem fbox_next {w W W' : World} {B bb off : Nat} {c0 c1 c2 c3 d : Value} (hb : Below W.heap.size W W') (h : W.cell? ⟨B, 0, none⟩ = some c0 ∧ W.cell? ⟨B, 1, none⟩ = some c1 ∧ W.cell? ⟨B, 2, none⟩ = some c2 ∧ W.cell? ⟨B, 3, none⟩ = some c3 ∧ W.cell? ⟨bb, off, none⟩ = some d ∧ Below w.heap.size w W) :
    W'.cell? ⟨B, 0, none⟩ = some c0 ∧ W'.cell? ⟨B, 1, none⟩ = some c1 ∧ W'.cell? ⟨B, 2, none⟩ = some c2 ∧ W'.cell? ⟨B, 3, none⟩ = some c3 ∧ W'.cell? ⟨bb, off, none⟩ = some d ∧ Below w.heap.size w W' := by
  obtain ⟨h0, h1, h2, h3, h4, h5⟩ := h
  have hB := World.block_lt_of_cell? W _ h0
  have hD := World.block_lt_of_cell? W _ h4
  exact ⟨(cellNext hB hb _).trans h0, (cellNext hB hb _).trans h1, (cellNext hB hb _).trans h2, (cellNext hB hb _).trans h3, (cellNext hD hb _).trans h4, bthen h5 hb⟩
theorem fbox_below {w W : World} {B bb off : Nat} {c0 c1 c2 c3 d : Value} (h : W.cell? ⟨B, 0, none⟩ = some c0 ∧ W.cell? ⟨B, 1, none⟩ = some c1 ∧ W.cell? ⟨B, 2, none⟩ = some c2 ∧ W.cell? ⟨B, 3, none⟩ = some c3 ∧ W.cell? ⟨bb, off, none⟩ = some d ∧ Below w.heap.size w W) : Below w.heap.size w W := h.2.2.2.2.2
set_option maxRecDepth 100000 in
set_option maxHeartbeats 4000000 in
theorem func_any (f : Fn) (C : Option Addr) (ca : Nat) (w : World) (hok : FnOk f) (hS : Blocks w (.slice C f.l.length ca) f.l) :
    Calls Try.prog 20 #[.agg #[.string f.s, .int .i64 f.b, .int .i64 f.p, .slice C f.l.length ca]] w fun e w' => e = .returned (.bool (funcB f)) ∧ Below w.heap.size w w' := by
  obtain ⟨s, b, p, l⟩ := f
  obtain ⟨hs, hl, hbk⟩ := hok
  simp only at hs hl hbk hS ⊢
  have HN := Lib.hid (fun W : World => mayName_any s W hs)
  rw [show (decide (1 ≤ (s.size : Int)) && decide ((s.size : Int) ≤ 16)) = nameB s from rfl] at HN
  have HR := Lib.hid (fun (W : World) (hb : Below w.heap.size w W) => rightBlocks_any s b p l C l.length ca W rfl hl hbk (hS.next hb))
  obtain ⟨nl, hnl⟩ : ∃ n, l.length = n := ⟨_, rfl⟩
  have HE := Lib.hid (funcB_eq s b p l)
  have HS := Lib.hid hS
  have HL := Lib.hid (show l.length ≤ nl ∧ nl ≤ l.length by omega)
  rw [hnl] at HR HE HS ⊢
  clear hbk hS hs hl hnl
  go_enter Try.func20, Try.ntmps20
  go_wp2_with fail
  obtain ⟨W, hW⟩ : ∃ W, W = w.alloc (.cells #[.string s, .int .i64 b, .int .i64 p, .slice C nl ca] 24) := ⟨_, rfl⟩
  have hin := heap_alloc_new w (.cells #[.string s, .int .i64 b, .int .i64 p, .slice C nl ca] 24)
  have hbw := balloc (Below.refl _ w) (.cells #[.string s, .int .i64 b, .int .i64 p, .slice C nl ca] 24)
  rw [← hW] at hin hbw ⊢
  have c0 := Lib.cell_of_heap hin 0
  have c1 := Lib.cell_of_heap hin 1
  have c2 := Lib.cell_of_heap hin 2
  have c3 := Lib.cell_of_heap hin 3
  simp only [List.getElem?_toArray, List.getElem?_cons_zero, List.getElem?_cons_succ] at c0 c1 c2 c3
  have HIN := Lib.hid hin
  have HB := Lib.hid hbw
  clear hW hin hbw
  refine (HN.out _).mono ?_
  rintro r w1 ⟨rfl, rfl⟩
  cases hn : nameB s with
  | false =>
    have HV := Lib.hid (show funcB ⟨s, b, p, l⟩ = false by rw [HE.out, hn]; rfl)
    clear HE hn
    go_wp2_with fail
    go_ret
    exact ⟨by rw [HV.out]; rfl, HB.out⟩
  | true =>
    rw [hn] at HE
    clear hn
    go_wp2_with fail
    refine (mayBind_any b _).mono ?_
    rintro r w1 ⟨rfl, rfl⟩
    cases hb : (decide (1 ≤ b) && decide (b ≤ 3)) with
    | false =>
      have HV := Lib.hid (show funcB ⟨s, b, p, l⟩ = false by rw [HE.out, hb]; rfl)
      clear HE hb
      go_wp2_with fail
      go_ret
      exact ⟨by rw [HV.out]; rfl, HB.out⟩
    | true =>
      rw [hb] at HE
      clear hb
      go_wp2_with fail
      refine (mayParams_any p _).mono ?_
      rintro r w1 ⟨rfl, rfl⟩
      cases hp : (decide (0 ≤ p) && decide (p ≤ 6)) with
      | false =>
        have HV := Lib.hid (show funcB ⟨s, b, p, l⟩ = false by rw [HE.out, hp]; rfl)
        clear HE hp
        go_wp2_with fail
        go_ret
        exact ⟨by rw [HV.out]; rfl, HB.out⟩
      | true =>
        rw [hp] at HE
        clear hp
        by_cases h16 : nl ≤ 16
        case neg =>
          have t : decide ((16 : Int) < (nl : Int)) = true := decide_eq_true (by omega)
          have HV := Lib.hid (show funcB ⟨s, b, p, l⟩ = false by rw [HE.out, decide_eq_false h16]; rfl)
          clear HE h16
          go_wp2_with fail
          go_ret
          exact ⟨by rw [HV.out]; rfl, HB.out⟩
        have t : decide ((16 : Int) < (nl : Int)) = false := decide_eq_false (by omega)
        rw [decide_eq_true h16] at HE
        cases l with
        | nil =>
          obtain rfl : nl = 0 := by have := HL.out; simp at this; omega
          have HV := Lib.hid (show funcB ⟨s, b, p, []⟩ = !(b == 1) by rw [HE.out]; rfl)
          clear HE h16 HL HS HR t
          go_wp2_with fail
          go_ret
          exact ⟨by rw [HV.out]; rfl, HB.out⟩
        | cons c l =>
          have h0 : 0 < nl := by have := HL.out; simp at this; omega
          have hS := HS.out
          rcases hS with ⟨hq, -⟩ | ⟨_, bb, off, cap, hv, hbb, hat⟩
          · cases hq
          obtain ⟨hC, -, -⟩ := Value.slice.inj hv
          subst hC
          have hb0 := BkAt.next _ _ _ _ _ hbb HB.out (hat 0 (by simp))
          obtain ⟨d0, -⟩ := hb0
          simp only [Nat.zero_mul, Nat.add_zero, List.getElem_cons_zero] at d0
          have HV := Lib.hid (show funcB ⟨s, b, p, c :: l⟩ = (c.p == p && (c :: l).all (blockB (c :: l))) by rw [HE.out]; rfl)
          obtain ⟨P, hP⟩ : ∃ P, c.p = P := ⟨_, rfl⟩
          rw [hP] at d0 HV
          have ez : ((nl : Int) == 0) = false := by simp; omega
          have i1 : (0 : Int) < (nl : Int) := by omega
          have HR1 := Lib.hid (fun (U : World) (hu : Below w.heap.size w U) => HR.out U hu)
          obtain ⟨V, hV⟩ : ∃ V, (c :: l).all (blockB (c :: l)) = V := ⟨_, rfl⟩
          rw [hV] at HR1 HV
          have HBB := Lib.hid hbb
          clear HE hv hat HR HS HL hP hV
          go_wp2_with fail
          cases hq : (P == p) with
          | false =>
            have HF := Lib.hid (show funcB ⟨s, b, p, c :: l⟩ = false by rw [HV.out, hq]; rfl)
            go_quiet (fail)
            go_wp2_with fail
            go_ret
            exact ⟨by rw [HF.out]; rfl, bthen HB.out (drewN_below' _ nq)⟩
          | true =>
            have HF := Lib.hid (show funcB ⟨s, b, p, c :: l⟩ = V by rw [HV.out, hq]; rfl)
            have hu : undef = Value.tuple #[] := rfl
            have hd : W.drew.cell? ⟨w.heap.size, 0, none⟩ = some (.string s) ∧ W.drew.cell? ⟨w.heap.size, 1, none⟩ = some (.int .i64 b) ∧ W.drew.cell? ⟨w.heap.size, 2, none⟩ = some (.int .i64 p) ∧ W.drew.cell? ⟨w.heap.size, 3, none⟩ = some (.slice (some ⟨bb, off, none⟩) nl ca) ∧ W.drew.cell? ⟨bb, off, none⟩ = some (.int .i64 P) ∧ Below w.heap.size w W.drew := ⟨c0, c1, c2, c3, d0, HB.out.drew⟩
            go_region_held3 (fun W' => W'.cell? ⟨w.heap.size, 0, none⟩ = some (.string s) ∧ W'.cell? ⟨w.heap.size, 1, none⟩ = some (.int .i64 b) ∧ W'.cell? ⟨w.heap.size, 2, none⟩ = some (.int .i64 p) ∧ W'.cell? ⟨w.heap.size, 3, none⟩ = some (.slice (some ⟨bb, off, none⟩) nl ca) ∧ W'.cell? ⟨bb, off, none⟩ = some (.int .i64 P) ∧ Below w.heap.size w W') (first | assumption | exact hd | exact fbox_next (by assumption) (by assumption))
              (first
                | (go_at_call 50; refine Calls.mono (HR1.out _ (fbox_below (by assumption))) ?_; rintro r w2 ⟨rfl, hb2⟩))
            all_goals
              go_wp2_with fail
              go_ret
              exact ⟨by rw [HF.out]; rfl, fbox_below (by assumption)⟩
end Go.Proofs.Ytkalgiaapkjplaa
