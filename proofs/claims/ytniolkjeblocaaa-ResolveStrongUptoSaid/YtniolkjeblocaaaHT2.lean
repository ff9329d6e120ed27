/- What the texts of package resolve stand on, of the packages ir and pick (part 3). -/
import Derived.Test.YtniolkjeblocaaaHT1
namespace Go.Proofs.Ytniolkjeblocaaa
open Go.RowKit
theorem refInst_any (i : In) (n : Int) (A : Option Addr) (cap : Nat) (w : World) (hS : Ints w (.slice A i.l.length cap) i.l) (hn : i.l.length * 8 ≤ 140737488355328) (hs : i.s.size < 9223372036854775808) :
    Calls Try.prog 94 #[inV i (.slice A i.l.length cap), .int .i64 n] w fun e w' => e = .returned (.bool (instB n i)) ∧ Below w.heap.size w w' := by
  have hc : (i.o < 1 ∨ 16 < i.o) ∨ i.o = 1 ∨ i.o = 2 ∨ i.o = 3 ∨ i.o = 4 ∨ i.o = 5 ∨ i.o = 6 ∨ i.o = 7 ∨ i.o = 8 ∨ i.o = 9 ∨ i.o = 10 ∨ i.o = 11 ∨ i.o = 12 ∨ i.o = 13 ∨ i.o = 14 ∨ i.o = 15 ∨ i.o = 16 := by omega
  rcases hc with h | h | h | h | h | h | h | h | h | h | h | h | h | h | h | h | h
  · exact refInst_out i n A cap w hS hn hs h
  · exact refInst_a i n A cap w hS hn hs h
  · exact refInst_g i n A cap w hS hn hs h
  · exact refInst_h i n A cap w hS hn hs h
  · exact refInst_i i n A cap w hS hn hs h
  · exact refInst_j i n A cap w hS hn hs h
  · exact refInst_k i n A cap w hS hn hs h
  · exact refInst_l i n A cap w hS hn hs h
  · exact refInst_m i n A cap w hS hn hs h
  · exact refInst_n i n A cap w hS hn hs h
  · exact refInst_p i n A cap w hS hn hs h
  · exact refInst_q i n A cap w hS hn hs h
  · exact refInst_b i n A cap w hS hn hs h
  · exact refInst_c i n A cap w hS hn hs h
  · exact refInst_d i n A cap w hS hn hs h
  · exact refInst_e i n A cap w hS hn hs h
  · exact refInst_f i n A cap w hS hn hs h
end Go.Proofs.Ytniolkjeblocaaa
namespace Go.Proofs.Ytniolkjeblocaaa
open Go.RowKit
theorem instsB_app : ∀ (l k : List In) (p : Int), instsB p (l ++ k) = (instsB p l && instsB (p + l.length) k)
  | [], k, p => by rw [List.nil_append, instsB, List.length_nil]; simp
  | x :: l, k, p => by
    rw [List.cons_append, instsB, instsB, instsB_app l k (p + 1), List.length_cons, Bool.and_assoc, show p + 1 + (l.length : Int) = p + ((l.length + 1 : Nat) : Int) by omega]
theorem instsB_take {l : List In} {p : Int} {j : Nat} (hj : j < l.length) : instsB p (l.take (j + 1)) = (instsB p (l.take j) && instB (p + j) l[j]) := by
  rw [List.take_succ_eq_append_getElem hj, instsB_app, List.length_take, show min j l.length = j by omega]
  simp [instsB]
theorem instsB_no {l : List In} {p : Int} {j : Nat} (hj : j < l.length) (h : instB (p + j) l[j] = false) : instsB p l = false := by
  have e := instsB_app (l.take (j + 1)) (l.drop (j + 1)) p
  rw [List.take_append_drop, instsB_take hj, h] at e
  rw [e]
  simp
theorem goesB_neg {all : List Bk} {n tt : Int} {l : List Int} (h : tt < 0) : goesB all n tt l = false := by
  unfold goesB
  rw [decide_eq_false (by omega : ¬ 0 ≤ tt)]
  rfl
theorem goesB_big {all : List Bk} {n tt : Int} {l : List Int} (h : (all.length : Int) ≤ tt) : goesB all n tt l = false := by
  unfold goesB
  rw [decide_eq_false (by omega : ¬ tt < (all.length : Int))]
  simp
theorem goesB_at {all : List Bk} {n : Int} {i : Nat} {l : List Int} (hi : i < all.length) : goesB all n (i : Int) l = (((l.length : Int) == all[i].p) && amongB n l) := by
  unfold goesB
  rw [decide_eq_true (by omega : (0 : Int) ≤ (i : Int)), decide_eq_true (by omega : (i : Int) < (all.length : Int)), Int.toNat_natCast, List.getElem?_eq_getElem hi]
  rfl
theorem endB_jump (all : List Bk) (n a t e : Int) (l m : List Int) : endB all n ⟨1, a, t, l, e, m⟩ = (goesB all n t l && a == 0 && e == 0 && decide (m = [])) := by
  unfold endB
  rw [if_pos rfl]
theorem endB_if (all : List Bk) (n a t e : Int) (l m : List Int) : endB all n ⟨2, a, t, l, e, m⟩ = ((decide (0 ≤ a) && decide (a < n)) && goesB all n t l && goesB all n e m) := by
  unfold endB
  rw [if_neg (show ¬ (2 : Int) = 1 by decide), if_pos rfl, among_one]
theorem endB_ret (all : List Bk) (n a t e : Int) (l m : List Int) : endB all n ⟨3, a, t, l, e, m⟩ = ((decide (0 ≤ a) && decide (a < n)) && t == 0 && decide (l = []) && e == 0 && decide (m = [])) := by
  unfold endB
  rw [if_neg (show ¬ (3 : Int) = 1 by decide), if_neg (show ¬ (3 : Int) = 2 by decide), if_pos rfl, among_one]
theorem endB_out (all : List Bk) (n k a t e : Int) (l m : List Int) (h1 : k ≠ 1) (h2 : k ≠ 2) (h3 : k ≠ 3) : endB all n ⟨k, a, t, l, e, m⟩ = false := by
  unfold endB
  rw [if_neg h1, if_neg h2, if_neg h3]
theorem nil_len {l : List Int} {n : Nat} (h : l.length = n) : decide (l = []) = ((n : Int) == 0) := by
  subst h
  cases l <;> simp
  omega
set_option maxRecDepth 100000 in
set_option maxHeartbeats 2000000 in
theorem refGoes_any (s : ByteArray) (b p : Int) (bl : List Bk) (C A : Option Addr) (na ca nl cl : Nat) (tt n : Int) (l : List Int) (w : World) (hna : bl.length = na) (h9 : na ≤ 9223372036854775807) (hnl : l.length = nl) (hl9 : nl ≤ 9223372036854775807)
    (hS : Blocks w (.slice C na ca) bl) (hl : Ints w (.slice A nl cl) l) :
    Calls Try.prog 95 #[.agg #[.string s, .int .i64 b, .int .i64 p, .slice C na ca], .int .i64 tt, .slice A nl cl, .int .i64 n] w fun e w' => e = .returned (.bool (goesB bl n tt l)) ∧ Below w.heap.size w w' := by
  have HBW := Lib.hid (balloc (Below.refl _ w) (.cells #[.string s, .int .i64 b, .int .i64 p, .slice C na ca] 57))
  have HIN := Lib.hid (heap_alloc_new w (.cells #[.string s, .int .i64 b, .int .i64 p, .slice C na ca] 57))
  have HL := Lib.hid (fun (W : World) (hb : Below w.heap.size w W) => refBelow_any n l A nl cl W (hl.next hb) hl9)
  have n9 : (na : Int) ≤ 9223372036854775807 := by omega
  go_enter Try.func95, Try.ntmps95
  go_upto_region 1 with fail
  generalize w.alloc (.cells #[.string s, .int .i64 b, .int .i64 p, .slice C na ca] 57) = W0 at *
  have c3 := Lib.cell_of_heap HIN.out 3
  simp only [List.getElem?_toArray, List.getElem?_cons_zero, List.getElem?_cons_succ] at c3
  by_cases h0 : tt < 0
  · have t0 : decide (tt < 0) = true := decide_eq_true h0
    have HV := Lib.hid (goesB_neg (all := bl) (n := n) (l := l) h0)
    clear hna h9 hnl hl9 hS hl h0
    go_wp2_with fail
    go_ret
    exact ⟨by rw [HV.out]; rfl, HBW.out⟩
  have t0 : decide (tt < 0) = false := decide_eq_false h0
  by_cases h1 : (na : Int) ≤ tt
  · have t1 : decide ((na : Int) ≤ tt) = true := decide_eq_true h1
    have HV := Lib.hid (goesB_big (all := bl) (n := n) (l := l) (by rw [hna]; exact h1))
    clear hna h9 hnl hl9 hS hl h0 h1
    go_wp2_with fail
    go_ret
    exact ⟨by rw [HV.out]; rfl, HBW.out⟩
  have t1 : decide ((na : Int) ≤ tt) = false := decide_eq_false h1
  obtain ⟨i, rfl⟩ : ∃ i : Nat, tt = i := ⟨tt.toNat, by omega⟩
  have hi : i < bl.length := by omega
  obtain ⟨b1, off, hA, hbl, e0⟩ := RowOf.at_ hS hi
  subst hA
  have c0 := (cellNext hbl HBW.out _).trans e0.1
  have HV := Lib.hid (goesB_at (n := n) (l := l) hi)
  obtain ⟨P, hP⟩ : ∃ P, bl[i].p = P := ⟨_, rfl⟩
  rw [hP] at c0 HV
  rw [hnl] at HV
  have i0 : (0 : Int) ≤ (i : Int) := by omega
  have i1 : (i : Int) < (na : Int) := by omega
  have t1' : decide (na ≤ i) = false := decide_eq_false (by omega)
  clear hna h9 hnl hl9 hS hl h0 h1 hP e0 hi hbl
  cases hq : ((nl : Int) == P) with
  | false =>
    have HF := Lib.hid (show goesB bl n i l = false by rw [HV.out, hq]; rfl)
    go_wp2_with fail
    go_ret
    exact ⟨by rw [HF.out]; rfl, HBW.out⟩
  | true =>
    have HF := Lib.hid (show goesB bl n i l = amongB n l by rw [HV.out, hq]; rfl)
    go_wp2_with fail
    refine (HL.out _ HBW.out).mono ?_
    rintro r w1 ⟨rfl, hb⟩
    have HB := Lib.hid (bthen HBW.out hb)
    clear hb
    go_wp2_with fail
    go_ret
    exact ⟨by rw [HF.out]; rfl, HB.out⟩
theorem insbox_next {w W W' : World} {B b2 o : Nat} {c0 c1 d0 d1 d2 d3 d4 d5 : Value} (hb : Below W.heap.size W W') (h : W.cell? ⟨B, 0, none⟩ = some c0 ∧ W.cell? ⟨B, 1, none⟩ = some c1 ∧ W.cell? ⟨b2, o, none⟩ = some d0 ∧ W.cell? ⟨b2, o + 1, none⟩ = some d1 ∧ W.cell? ⟨b2, o + 2, none⟩ = some d2 ∧ W.cell? ⟨b2, o + 3, none⟩ = some d3 ∧ W.cell? ⟨b2, o + 4, none⟩ = some d4 ∧ W.cell? ⟨b2, o + 5, none⟩ = some d5 ∧ Below w.heap.size w W) :
    W'.cell? ⟨B, 0, none⟩ = some c0 ∧ W'.cell? ⟨B, 1, none⟩ = some c1 ∧ W'.cell? ⟨b2, o, none⟩ = some d0 ∧ W'.cell? ⟨b2, o + 1, none⟩ = some d1 ∧ W'.cell? ⟨b2, o + 2, none⟩ = some d2 ∧ W'.cell? ⟨b2, o + 3, none⟩ = some d3 ∧ W'.cell? ⟨b2, o + 4, none⟩ = some d4 ∧ W'.cell? ⟨b2, o + 5, none⟩ = some d5 ∧ Below w.heap.size w W' := by
  obtain ⟨h0, h1, g0, g1, g2, g3, g4, g5, h8⟩ := h
  have hB := World.block_lt_of_cell? W _ h0
  have hD := World.block_lt_of_cell? W _ g0
  exact ⟨(cellNext hB hb _).trans h0, (cellNext hB hb _).trans h1, (cellNext hD hb _).trans g0, (cellNext hD hb _).trans g1, (cellNext hD hb _).trans g2, (cellNext hD hb _).trans g3, (cellNext hD hb _).trans g4, (cellNext hD hb _).trans g5, bthen h8 hb⟩
theorem insbox_below {w W : World} {B b2 o : Nat} {c0 c1 d0 d1 d2 d3 d4 d5 : Value} (h : W.cell? ⟨B, 0, none⟩ = some c0 ∧ W.cell? ⟨B, 1, none⟩ = some c1 ∧ W.cell? ⟨b2, o, none⟩ = some d0 ∧ W.cell? ⟨b2, o + 1, none⟩ = some d1 ∧ W.cell? ⟨b2, o + 2, none⟩ = some d2 ∧ W.cell? ⟨b2, o + 3, none⟩ = some d3 ∧ W.cell? ⟨b2, o + 4, none⟩ = some d4 ∧ W.cell? ⟨b2, o + 5, none⟩ = some d5 ∧ Below w.heap.size w W) : Below w.heap.size w W := h.2.2.2.2.2.2.2.2
set_option maxRecDepth 100000 in
set_option maxHeartbeats 8000000 in
theorem refBlock_any (s : ByteArray) (b p : Int) (bl : List Bk) (C : Option Addr) (na ca k : Nat) (w : World) (hk : k < bl.length) (hna : bl.length = na) (h9 : na ≤ 9223372036854775807) (hok : BkW bl[k]) (hS : Blocks w (.slice C na ca) bl) :
    Calls Try.prog 78 #[.agg #[.string s, .int .i64 b, .int .i64 p, .slice C na ca], .int .i64 k] w fun e w' => e = .returned (.bool (blockB bl bl[k])) ∧ Below w.heap.size w w' := by
  have hgo := fun (A : Option Addr) (nl cl : Nat) (tt n : Int) (l : List Int) (hnl : l.length = nl) (hl9 : nl ≤ 9223372036854775807) (hl : Ints w (.slice A nl cl) l) (W : World) (hb : Below w.heap.size w W) => refGoes_any s b p bl C A na ca nl cl tt n l W hna h9 hnl hl9 (hS.next hb) (hl.next hb)
  obtain ⟨V, hV⟩ : ∃ V, blockB bl bl[k] = V := ⟨_, rfl⟩
  rw [hV]
  obtain ⟨b1, off, hA, hbl, e0⟩ := RowOf.at_ hS hk
  subst hA
  have hb0 := balloc (Below.refl _ w) (.cells #[.string s, .int .i64 b, .int .i64 p, .slice (some ⟨b1, off, none⟩) na ca] 57)
  have hin := heap_alloc_new w (.cells #[.string s, .int .i64 b, .int .i64 p, .slice (some ⟨b1, off, none⟩) na ca] 57)
  obtain ⟨-, ⟨A1, z1, g1', hins⟩, -, -, -, ⟨A5, z5, g5', hl5⟩, -, A7, z7, g7', hl7⟩ := id e0
  obtain ⟨g0, -, g2, g3, g4, -, g6, -⟩ := BkAt.next _ _ _ _ _ hbl hb0 e0
  have g1 := (cellNext hbl hb0 _).trans g1'
  have g5 := (cellNext hbl hb0 _).trans g5'
  have g7 := (cellNext hbl hb0 _).trans g7'
  clear e0 g1' g5' g7'
  obtain ⟨⟨bp, bi, ⟨ek, ea, et, el, ee, em⟩⟩, hbk⟩ : ∃ t, bl[k] = t := ⟨_, rfl⟩
  rw [hbk] at g0 g1 g2 g3 g4 g5 g6 g7 hins hl5 hl7 hok hV
  simp only at g0 g1 g2 g3 g4 g5 g6 g7 hins hl5 hl7
  obtain ⟨⟨o1, o2, o3, -⟩, o4⟩ := hok
  simp only at o1 o2 o3 o4
  obtain ⟨ll, hll⟩ : ∃ x, el.length = x := ⟨_, rfl⟩
  obtain ⟨lm, hlm⟩ : ∃ x, em.length = x := ⟨_, rfl⟩
  obtain ⟨ni, hni⟩ : ∃ x, bi.length = x := ⟨_, rfl⟩
  have HNI := Lib.hid (show bi.length ≤ ni ∧ ni ≤ bi.length by omega)
  have HVE := Lib.hid (show V = (decide (0 ≤ bp) && decide (bp ≤ 6) && decide (ni ≤ 32) && endB bl (bp + ni) ⟨ek, ea, et, el, ee, em⟩ && instsB bp bi) by rw [← hV, ← hni]; rfl)
  have HLN := Lib.hid (nil_len hll)
  have HMN := Lib.hid (nil_len hlm)
  rw [hll] at g5 hl5 o2
  rw [hlm] at g7 hl7 o3
  rw [hni] at g1 hins o1
  have HGT := Lib.hid (hgo A5 ll z5 et (bp + ni) el hll o2 hl5)
  have HGE := Lib.hid (hgo A7 lm z7 ee (bp + ni) em hlm o3 hl7)
  have HINS := Lib.hid hins
  have HWO := Lib.hid o4
  have k0 : (0 : Int) ≤ (k : Int) := by omega
  have k1 : (k : Int) < (na : Int) := by omega
  have n1 : (ni : Int) ≤ 9223372036854775807 := by omega
  have HB0 := Lib.hid hb0
  have HIN := Lib.hid hin
  clear hgo hV hk hna h9 hS hbl hb0 hin hbk hl5 hl7 hins hll hlm hni o1 o2 o3 o4
  go_enter Try.func78, Try.ntmps78
  go_upto_region 1 with fail
  generalize w.alloc (.cells #[.string s, .int .i64 b, .int .i64 p, .slice (some ⟨b1, off, none⟩) na ca] 57) = W0 at *
  have c3 := Lib.cell_of_heap HIN.out 3
  simp only [List.getElem?_toArray, List.getElem?_cons_zero, List.getElem?_cons_succ] at c3
  go_upto_region 2 with fail
  have HIX := Lib.hid (heap_alloc_new W0 (.cells #[.int .i64 bp, .slice A1 ni z1, .int .i64 ek, .int .i64 ea, .int .i64 et, .slice A5 ll z5, .int .i64 ee, .slice A7 lm z7] 105))
  have hbx := balloc (Below.refl _ W0) (.cells #[.int .i64 bp, .slice A1 ni z1, .int .i64 ek, .int .i64 ea, .int .i64 et, .slice A5 ll z5, .int .i64 ee, .slice A7 lm z7] 105)
  have HI1 := Lib.hid ((hbx.block _ (Array.getElem?_eq_some_iff.1 HIN.out).1).trans HIN.out)
  have HB1 := Lib.hid (bthen HB0.out hbx)
  clear hbx g0 g1 g2 g3 g4 g5 g6 g7 c3
  generalize W0.alloc (.cells #[.int .i64 bp, .slice A1 ni z1, .int .i64 ek, .int .i64 ea, .int .i64 et, .slice A5 ll z5, .int .i64 ee, .slice A7 lm z7] 105) = W1 at *
  generalize W0.heap.size = BX at *
  have x0 := Lib.cell_of_heap HIX.out 0
  have x1 := Lib.cell_of_heap HIX.out 1
  simp only [List.getElem?_toArray, List.getElem?_cons_zero, List.getElem?_cons_succ] at x0 x1
  by_cases h0 : bp < 0
  · have t0 : decide (bp < 0) = true := decide_eq_true h0
    have HV := Lib.hid (show V = false by rw [HVE.out, decide_eq_false (by omega : ¬ 0 ≤ bp)]; rfl)
    go_wp2_with fail
    go_ret
    exact ⟨by rw [HV.out]; rfl, HB1.out⟩
  have t0 : decide (bp < 0) = false := decide_eq_false h0
  by_cases h6 : 6 < bp
  · have t6 : decide (6 < bp) = true := decide_eq_true h6
    have HV := Lib.hid (show V = false by rw [HVE.out, decide_eq_false (by omega : ¬ bp ≤ 6)]; simp)
    go_wp2_with fail
    go_ret
    exact ⟨by rw [HV.out]; rfl, HB1.out⟩
  have t6 : decide (6 < bp) = false := decide_eq_false h6
  by_cases h32 : 32 < ni
  · have t32 : decide ((32 : Int) < (ni : Int)) = true := decide_eq_true (by omega)
    have t32' : decide (32 < ni) = true := decide_eq_true (by omega)
    have HV := Lib.hid (show V = false by rw [HVE.out, decide_eq_false (by omega : ¬ ni ≤ 32)]; simp)
    go_wp2_with fail
    go_ret
    exact ⟨by rw [HV.out]; rfl, HB1.out⟩
  have t32 : decide ((32 : Int) < (ni : Int)) = false := decide_eq_false (by omega)
  have t32' : decide (32 < ni) = false := decide_eq_false (by omega)
  have HE0 := Lib.hid (show V = (endB bl (bp + ni) ⟨ek, ea, et, el, ee, em⟩ && instsB bp bi) by rw [HVE.out, decide_eq_true (by omega : 0 ≤ bp), decide_eq_true (by omega : bp ≤ 6), decide_eq_true (by omega : ni ≤ 32)]; rfl)
  have p0 : 0 ≤ bp := by omega
  have p6 : bp ≤ 6 := by omega
  have n32 : (ni : Int) ≤ 32 := by omega
  clear h0 h6 h32 HVE n1
  go_wp2_with fail
  clear t0 t6 t32 t32' x0 x1
  go_loopw [6] (fun iv wi => ∃ j : Nat, j ≤ ni ∧ iv = .int .i64 j ∧ instsB bp (bi.take j) = true ∧ wi.heap[BX]? = some (.cells #[.int .i64 bp, .slice A1 ni z1, .int .i64 ek, .int .i64 ea, .int .i64 et, .slice A5 ll z5, .int .i64 ee, .slice A7 lm z7] 105 (0, 0)) ∧ wi.heap[w.heap.size]? = some (.cells #[.string s, .int .i64 b, .int .i64 p, .slice (some ⟨b1, off, none⟩) na ca] 57 (0, 0)) ∧ Below w.heap.size w wi) (fun iv _ => ni - (intOf iv).toNat)
  case atStart => exact ⟨0, Nat.zero_le _, rfl, rfl, HIX.out, HI1.out, HB1.out⟩
  case round =>
    obtain ⟨j, hj, rfl, ht, hbx, hfx, hb⟩ := hrel
    have HT := Lib.hid ht
    have HBX := Lib.hid hbx
    have HFX := Lib.hid hfx
    have HBB := Lib.hid hb
    have d0 := Lib.cell_of_heap hbx 0
    have d1 := Lib.cell_of_heap hbx 1
    simp only [List.getElem?_toArray, List.getElem?_cons_zero, List.getElem?_cons_succ] at d0 d1
    clear ht hbx hfx hb HIX HI1 HB1 HB0
    by_cases hlj : j < ni
    · have hjm : j < bi.length := by have := HNI.out; omega
      obtain ⟨b2, off2, hA2, hb2, e2⟩ := RowOf.at_ HINS.out hjm
      subst hA2
      obtain ⟨q0, q1, q2, q3, q4, A6, z6, q5, hi6⟩ := InAt.next _ _ _ _ _ hb2 HBB.out e2
      have hw := HWO.out _ (List.getElem_mem hjm)
      have HU := Lib.hid (fun (U : World) (hu : Below wr.heap.size wr U) => refInst_any bi[j] (bp + j) A6 z6 U (hi6.next hu) hw.2.2 hw.1.1)
      unfold inV at HU
      have HNX := Lib.hid (instsB_take (p := bp) hjm)
      have HNO := Lib.hid (fun h => instsB_no (p := bp) hjm h)
      obtain ⟨X, hX⟩ : ∃ X, instB (bp + j) bi[j] = X := ⟨_, rfl⟩
      rw [hX] at HU HNX HNO
      obtain ⟨y0, h0⟩ : ∃ x, bi[j].o = x := ⟨_, rfl⟩
      obtain ⟨y1, h1⟩ : ∃ x, bi[j].a = x := ⟨_, rfl⟩
      obtain ⟨y2, h2⟩ : ∃ x, bi[j].b = x := ⟨_, rfl⟩
      obtain ⟨y3, h3⟩ : ∃ x, bi[j].k = x := ⟨_, rfl⟩
      obtain ⟨y4, h4⟩ : ∃ x, bi[j].s = x := ⟨_, rfl⟩
      obtain ⟨y5, h5⟩ : ∃ x, bi[j].l.length = x := ⟨_, rfl⟩
      rw [h0, h1, h2, h3, h4, h5] at HU
      rw [h0] at q0
      rw [h1] at q1
      rw [h2] at q2
      rw [h3] at q3
      rw [h4] at q4
      rw [h5] at q5
      have j0 : (0 : Int) ≤ (j : Int) := Int.natCast_nonneg _
      have j1 : (j : Int) < (ni : Int) := by omega
      have HLJ := Lib.hid hlj
      clear h0 h1 h2 h3 h4 h5 hjm hlj hi6 hX e2 hw
      have HQ := Lib.hid (show wr.drew.cell? ⟨BX, 0, none⟩ = some (.int .i64 bp) ∧ wr.drew.cell? ⟨BX, 1, none⟩ = some (.slice (some ⟨b2, off2, none⟩) ni z1) ∧ wr.drew.cell? ⟨b2, off2 + j * 6, none⟩ = some (.int .i64 y0) ∧ wr.drew.cell? ⟨b2, off2 + j * 6 + 1, none⟩ = some (.int .i64 y1) ∧ wr.drew.cell? ⟨b2, off2 + j * 6 + 2, none⟩ = some (.int .i64 y2) ∧ wr.drew.cell? ⟨b2, off2 + j * 6 + 3, none⟩ = some (.int .u64 y3) ∧ wr.drew.cell? ⟨b2, off2 + j * 6 + 4, none⟩ = some (.string y4) ∧ wr.drew.cell? ⟨b2, off2 + j * 6 + 5, none⟩ = some (.slice A6 y5 z6) ∧ Below wr.heap.size wr wr.drew from ⟨d0, d1, q0, q1, q2, q3, q4, q5, (Below.refl _ wr).drew⟩)
      have bw : IntKind.i64.wrap (bp + (j : Int)) = bp + (j : Int) := by rw [IntKind.wrap_i64]; omega
      go_upto_region 7 with fail
      clear d0 d1 q0 q1 q2 q3 q4 q5
      go_cut [7] from 40 to 49 (fun v7 wx => v7 = .bool X ∧ Below wr.heap.size wr wx)
      case first =>
        have hd := HQ.out
        refine wp_region_held_drew (S := (fun U => U.cell? ⟨BX, 0, none⟩ = some (.int .i64 bp) ∧ U.cell? ⟨BX, 1, none⟩ = some (.slice (some ⟨b2, off2, none⟩) ni z1) ∧ U.cell? ⟨b2, off2 + j * 6, none⟩ = some (.int .i64 y0) ∧ U.cell? ⟨b2, off2 + j * 6 + 1, none⟩ = some (.int .i64 y1) ∧ U.cell? ⟨b2, off2 + j * 6 + 2, none⟩ = some (.int .i64 y2) ∧ U.cell? ⟨b2, off2 + j * 6 + 3, none⟩ = some (.int .u64 y3) ∧ U.cell? ⟨b2, off2 + j * 6 + 4, none⟩ = some (.string y4) ∧ U.cell? ⟨b2, off2 + j * 6 + 5, none⟩ = some (.slice A6 y5 z6) ∧ Below wr.heap.size wr U)) (by kernel_rfl) hd (fun hHeld => ?_)
        refine wpAnyH_take (i := 0) (v := ?_) rfl (by kernel_rfl) (by kernel_rfl) (by kernel_rfl) (fun _ _ _ h => h) (Or.inl ⟨by rfl, ?_⟩) hHeld ?_
        rotate_left
        · intro W' hSw; (try dsimp only at hSw); go_simp; try (with_reducible rfl)
        (try simp only [Act.put, List.getElem_toArray, List.getElem_cons_zero, List.setIfInBounds_toArray, List.set_cons_zero, List.set_cons_succ])
        refine wpAnyH_take (i := 1) (v := ?_) rfl (by kernel_rfl) (by kernel_rfl) (by kernel_rfl) (fun _ _ _ h => h) (Or.inl ⟨by rfl, ?_⟩) hHeld ?_
        rotate_left
        · intro W' hSw; (try dsimp only at hSw); go_simp; try (with_reducible rfl)
        (try simp only [Act.put, List.getElem_toArray, List.getElem_cons_zero, List.getElem_cons_succ, List.setIfInBounds_toArray, List.set_cons_zero, List.set_cons_succ])
        refine wpAnyH_take (i := 2) (v := ?_) rfl (by kernel_rfl) (by kernel_rfl) (by kernel_rfl) (fun _ _ _ h => h) (Or.inl ⟨by rfl, ?_⟩) hHeld ?_
        rotate_left
        · intro W' hSw; (try dsimp only at hSw); go_simp; try (with_reducible rfl)
        (try simp only [Act.put, List.getElem_toArray, List.getElem_cons_zero, List.getElem_cons_succ, List.setIfInBounds_toArray, List.set_cons_zero, List.set_cons_succ])
        refine wpAnyH_take (i := 3) (v := ?_) rfl (by kernel_rfl) (by kernel_rfl) (by kernel_rfl) (fun _ _ _ h => h) (Or.inl ⟨by rfl, ?_⟩) hHeld ?_
        rotate_left
        · intro W' hSw; (try dsimp only at hSw); go_simp; try (with_reducible rfl)
        (try simp only [Act.put, List.getElem_toArray, List.getElem_cons_zero, List.getElem_cons_succ, List.setIfInBounds_toArray, List.set_cons_zero, List.set_cons_succ])
        refine wpAnyH_take (i := 4) (v := ?_) rfl (by kernel_rfl) (by kernel_rfl) (by kernel_rfl) (fun _ _ _ h => h) (Or.inl ⟨by rfl, ?_⟩) hHeld ?_
        rotate_left
        · intro W' hSw; (try dsimp only at hSw); go_simp; try (with_reducible rfl)
        (try simp only [Act.put, List.getElem_toArray, List.getElem_cons_zero, List.getElem_cons_succ, List.setIfInBounds_toArray, List.set_cons_zero, List.set_cons_succ])
        refine wpAnyH_take (i := 5) (v := ?_) rfl (by kernel_rfl) (by kernel_rfl) (by kernel_rfl) (fun _ _ _ h => h) (Or.inl ⟨by rfl, ?_⟩) hHeld ?_
        rotate_left
        · intro W' hSw; (try dsimp only at hSw); go_simp; try (with_reducible rfl)
        (try simp only [Act.put, List.getElem_toArray, List.getElem_cons_zero, List.getElem_cons_succ, List.setIfInBounds_toArray, List.set_cons_zero, List.set_cons_succ])
        refine wpAnyH_take (i := 6) (v := ?_) rfl (by kernel_rfl) (by kernel_rfl) (by kernel_rfl) (fun _ _ _ h => h) (Or.inl ⟨by rfl, ?_⟩) hHeld ?_
        rotate_left
        · intro W' hSw; (try dsimp only at hSw); go_simp; try (with_reducible rfl)
        (try simp only [Act.put, List.getElem_toArray, List.getElem_cons_zero, List.getElem_cons_succ, List.setIfInBounds_toArray, List.set_cons_zero, List.set_cons_succ])
        refine wpAnyH_take (i := 7) (v := ?_) rfl (by kernel_rfl) (by kernel_rfl) (by kernel_rfl) (fun _ _ _ h => h) (Or.inl ⟨by rfl, ?_⟩) hHeld ?_
        rotate_left
        · intro W' hSw; (try dsimp only at hSw); go_simp; try (with_reducible rfl)
        (try simp only [Act.put, List.getElem_toArray, List.getElem_cons_zero, List.getElem_cons_succ, List.setIfInBounds_toArray, List.set_cons_zero, List.set_cons_succ])
        refine wpAnyH_take (i := 8) (v := ?_) rfl (by kernel_rfl) (by kernel_rfl) (by kernel_rfl) (fun _ _ _ h => h) (Or.inl ⟨by rfl, ?_⟩) hHeld ?_
        rotate_left
        · intro W' hSw; (try dsimp only at hSw); go_simp; try (with_reducible rfl)
        (try simp only [Act.put, List.getElem_toArray, List.getElem_cons_zero, List.getElem_cons_succ, List.setIfInBounds_toArray, List.set_cons_zero, List.set_cons_succ])
        refine wpAnyH_ready (rs := [9]) (by kernel_rfl) (by simp) ?_
        refine AllReadyH.cons rfl (fun K hK => ?_) AllReadyH.nil
        go_simp
        refine Calls.mono (HU.out _ (insbox_below hHeld)) ?_
        rintro r u1 ⟨rfl, hb2'⟩
        refine hK.out _ _ (insbox_next hb2' hHeld) (fun hHeld2 => ?_)
        clear hK
        (try simp only [Act.put, List.getElem_toArray, List.getElem_cons_zero, List.getElem_cons_succ, List.setIfInBounds_toArray, List.set_cons_zero, List.set_cons_succ])
        refine wpAnyH_take (i := 10) (v := ?_) rfl (by kernel_rfl) (by kernel_rfl) (by kernel_rfl) (fun _ _ _ h => h) (Or.inl ⟨by rfl, ?_⟩) hHeld2 ?_
        rotate_left
        · intro W' hSw; (try dsimp only at hSw); go_simp; try (with_reducible rfl)
        (try simp only [Act.put, List.getElem_toArray, List.getElem_cons_zero, List.getElem_cons_succ, List.setIfInBounds_toArray, List.set_cons_zero, List.set_cons_succ])
        refine wpAnyH_done (by kernel_rfl) ?_ _
        go_wp2_with fail
        go_meet
        exact ⟨rfl, insbox_below hHeld2⟩
      case rest =>
        obtain ⟨rfl, hb3⟩ := hcut
        have HBX3 := Lib.hid ((hb3.block _ (Array.getElem?_eq_some_iff.1 HBX.out).1).trans HBX.out)
        have HFX3 := Lib.hid ((hb3.block _ (Array.getElem?_eq_some_iff.1 HFX.out).1).trans HFX.out)
        have HBB3 := Lib.hid (bthen HBB.out hb3)
        clear hb3
        cases X with
        | false =>
          have HV := Lib.hid (show V = false by rw [HE0.out, HNO.out rfl]; simp)
          go_wp2_with fail
          go_ret
          exact ⟨by rw [HV.out]; rfl, HBB3.out⟩
        | true =>
          have HF := Lib.hid (show instsB bp (bi.take (j + 1)) = true by rw [HNX.out, HT.out]; rfl)
          go_wp2_with fail
          go_roundw
          case rel => exact ⟨j + 1, HLJ.out, by go_num, HF.out, HBX3.out, HFX3.out, HBB3.out⟩
          case measure => have := HLJ.out; simp [intOf]; omega
    · have hd : decide ((j : Int) < (ni : Int)) = false := by simp; omega
      have HI := Lib.hid (show instsB bp bi = true by
        have h := HT.out
        rwa [List.take_of_length_le (by have := HNI.out; omega)] at h)
      have HE := Lib.hid (show V = endB bl (bp + ni) ⟨ek, ea, et, el, ee, em⟩ by rw [HE0.out, HI.out]; simp)
      clear HE0 HI HT
      have d2 := Lib.cell_of_heap HBX.out 2
      have d3 := Lib.cell_of_heap HBX.out 3
      have d4 := Lib.cell_of_heap HBX.out 4
      have d5 := Lib.cell_of_heap HBX.out 5
      have d6 := Lib.cell_of_heap HBX.out 6
      have d7 := Lib.cell_of_heap HBX.out 7
      have f0 := Lib.cell_of_heap HFX.out 0
      have f1 := Lib.cell_of_heap HFX.out 1
      have f2 := Lib.cell_of_heap HFX.out 2
      have f3 := Lib.cell_of_heap HFX.out 3
      simp only [List.getElem?_toArray, List.getElem?_cons_zero, List.getElem?_cons_succ] at d2 d3 d4 d5 d6 d7 f0 f1 f2 f3
      have hbt := balloc (Below.refl _ wr) (.cells #[.int .i64 ek, .int .i64 ea, .int .i64 et, .slice A5 ll z5, .int .i64 ee, .slice A7 lm z7] 103)
      have HTX := Lib.hid (heap_alloc_new wr (.cells #[.int .i64 ek, .int .i64 ea, .int .i64 et, .slice A5 ll z5, .int .i64 ee, .slice A7 lm z7] 103))
      have HBT := Lib.hid (bthen HBB.out hbt)
      have HFT := Lib.hid ((hbt.block _ (Array.getElem?_eq_some_iff.1 HFX.out).1).trans HFX.out)
      have HBY := Lib.hid ((hbt.block _ (Array.getElem?_eq_some_iff.1 HBX.out).1).trans HBX.out)
      clear hbt
      have bw : IntKind.i64.wrap (bp + (ni : Int)) = bp + (ni : Int) := by rw [IntKind.wrap_i64]; omega
      go_upto_region 11 with fail
      clear d0 d1 d2 d3 d4 d5 d6 d7 f0 f1 f2 f3 hd
      generalize wr.alloc (.cells #[.int .i64 ek, .int .i64 ea, .int .i64 et, .slice A5 ll z5, .int .i64 ee, .slice A7 lm z7] 103) = W2 at *
      generalize wr.heap.size = TX at *
      have e0 := Lib.cell_of_heap HTX.out 0
      have e1 := Lib.cell_of_heap HTX.out 1
      have e2 := Lib.cell_of_heap HTX.out 2
      have e3 := Lib.cell_of_heap HTX.out 3
      have e4 := Lib.cell_of_heap HTX.out 4
      have e5 := Lib.cell_of_heap HTX.out 5
      have f0 := Lib.cell_of_heap HFT.out 0
      have f1 := Lib.cell_of_heap HFT.out 1
      have f2 := Lib.cell_of_heap HFT.out 2
      have f3 := Lib.cell_of_heap HFT.out 3
      have d0 := Lib.cell_of_heap HBY.out 0
      have d1 := Lib.cell_of_heap HBY.out 1
      simp only [List.getElem?_toArray, List.getElem?_cons_zero, List.getElem?_cons_succ] at e0 e1 e2 e3 e4 e5 f0 f1 f2 f3 d0 d1
      go_upto_region 12 with fail
      clear d0 d1
      by_cases k1 : ek = 1
      · subst k1
        rw [endB_jump, HMN.out] at HE
        go_wp2_with fail
        refine (HGT.out _ HBT.out).mono ?_
        rintro r u1 ⟨rfl, hb1⟩
        have HBC1 := Lib.hid (bthen HBT.out hb1)
        have HTC1 := Lib.hid ((hb1.block _ (Array.getElem?_eq_some_iff.1 HTX.out).1).trans HTX.out)
        have HFC1 := Lib.hid ((hb1.block _ (Array.getElem?_eq_some_iff.1 HFT.out).1).trans HFT.out)
        clear hb1 e0 e1 e2 e3 e4 e5 f0 f1 f2 f3
        obtain ⟨X, hX⟩ : ∃ x, goesB bl (bp + ni) et el = x := ⟨_, rfl⟩
        rw [hX] at HE ⊢
        clear hX
        have e0 := Lib.cell_of_heap HTC1.out 0
        have e1 := Lib.cell_of_heap HTC1.out 1
        have e2 := Lib.cell_of_heap HTC1.out 2
        have e3 := Lib.cell_of_heap HTC1.out 3
        have e4 := Lib.cell_of_heap HTC1.out 4
        have e5 := Lib.cell_of_heap HTC1.out 5
        have f0 := Lib.cell_of_heap HFC1.out 0
        have f1 := Lib.cell_of_heap HFC1.out 1
        have f2 := Lib.cell_of_heap HFC1.out 2
        have f3 := Lib.cell_of_heap HFC1.out 3
        simp only [List.getElem?_toArray, List.getElem?_cons_zero, List.getElem?_cons_succ] at e0 e1 e2 e3 e4 e5 f0 f1 f2 f3
        cases hq : X with
        | false =>
          have HV := Lib.hid (show V = false by rw [HE.out, hq]; simp)
          go_wp2_with fail
          go_ret
          exact ⟨by rw [HV.out]; rfl, HBC1.out⟩
        | true =>
          rw [hq] at HE
          have hq8 : X = true := hq
          clear hq
          cases hq : (ea == 0) with
          | false =>
            have HV := Lib.hid (show V = false by rw [HE.out, hq]; simp)
            go_wp2_with fail
            go_ret
            exact ⟨by rw [HV.out]; rfl, HBC1.out⟩
          | true =>
            rw [hq] at HE
            have hq10 : (ea == 0) = true := hq
            clear hq
            cases hq : (ee == 0) with
            | false =>
              have HV := Lib.hid (show V = false by rw [HE.out, hq]; simp)
              go_wp2_with fail
              go_ret
              exact ⟨by rw [HV.out]; rfl, HBC1.out⟩
            | true =>
              rw [hq] at HE
              have hq12 : (ee == 0) = true := hq
              clear hq
              cases hq : ((lm : Int) == 0) with
              | false =>
                have HV := Lib.hid (show V = false by rw [HE.out, hq]; simp)
                go_wp2_with fail
                go_ret
                exact ⟨by rw [HV.out]; rfl, HBC1.out⟩
              | true =>
                rw [hq] at HE
                have hq14 : ((lm : Int) == 0) = true := hq
                clear hq
                have HV := Lib.hid (show V = true by rw [HE.out]; rfl)
                go_wp2_with fail
                go_ret
                exact ⟨by rw [HV.out]; rfl, HBC1.out⟩
      have z1 : (ek == 1) = false := by simpa using k1
      by_cases k2 : ek = 2
      · subst k2
        rw [endB_if] at HE
        by_cases a0 : 0 ≤ ea
        case neg =>
          have u0 : decide (0 ≤ ea) = false := decide_eq_false a0
          rw [u0] at HE
          clear a0
          go_wp2_with fail
          refine (HGT.out _ HBT.out).mono ?_
          rintro r u1 ⟨rfl, hb1⟩
          have HBC1 := Lib.hid (bthen HBT.out hb1)
          have HTC1 := Lib.hid ((hb1.block _ (Array.getElem?_eq_some_iff.1 HTX.out).1).trans HTX.out)
          have HFC1 := Lib.hid ((hb1.block _ (Array.getElem?_eq_some_iff.1 HFT.out).1).trans HFT.out)
          clear hb1 e0 e1 e2 e3 e4 e5 f0 f1 f2 f3
          obtain ⟨X, hX⟩ : ∃ x, goesB bl (bp + ni) et el = x := ⟨_, rfl⟩
          rw [hX] at HE ⊢
          clear hX
          have e0 := Lib.cell_of_heap HTC1.out 0
          have e1 := Lib.cell_of_heap HTC1.out 1
          have e2 := Lib.cell_of_heap HTC1.out 2
          have e3 := Lib.cell_of_heap HTC1.out 3
          have e4 := Lib.cell_of_heap HTC1.out 4
          have e5 := Lib.cell_of_heap HTC1.out 5
          have f0 := Lib.cell_of_heap HFC1.out 0
          have f1 := Lib.cell_of_heap HFC1.out 1
          have f2 := Lib.cell_of_heap HFC1.out 2
          have f3 := Lib.cell_of_heap HFC1.out 3
          simp only [List.getElem?_toArray, List.getElem?_cons_zero, List.getElem?_cons_succ] at e0 e1 e2 e3 e4 e5 f0 f1 f2 f3
          go_wp2_with fail
          refine (HGE.out _ HBC1.out).mono ?_
          rintro r u2 ⟨rfl, hb2⟩
          have HBC2 := Lib.hid (bthen HBC1.out hb2)
          have HTC2 := Lib.hid ((hb2.block _ (Array.getElem?_eq_some_iff.1 HTC1.out).1).trans HTC1.out)
          have HFC2 := Lib.hid ((hb2.block _ (Array.getElem?_eq_some_iff.1 HFC1.out).1).trans HFC1.out)
          clear hb2 e0 e1 e2 e3 e4 e5 f0 f1 f2 f3
          obtain ⟨Y, hY⟩ : ∃ x, goesB bl (bp + ni) ee em = x := ⟨_, rfl⟩
          rw [hY] at HE ⊢
          clear hY
          have e0 := Lib.cell_of_heap HTC2.out 0
          have e1 := Lib.cell_of_heap HTC2.out 1
          have e2 := Lib.cell_of_heap HTC2.out 2
          have e3 := Lib.cell_of_heap HTC2.out 3
          have e4 := Lib.cell_of_heap HTC2.out 4
          have e5 := Lib.cell_of_heap HTC2.out 5
          have f0 := Lib.cell_of_heap HFC2.out 0
          have f1 := Lib.cell_of_heap HFC2.out 1
          have f2 := Lib.cell_of_heap HFC2.out 2
          have f3 := Lib.cell_of_heap HFC2.out 3
          simp only [List.getElem?_toArray, List.getElem?_cons_zero, List.getElem?_cons_succ] at e0 e1 e2 e3 e4 e5 f0 f1 f2 f3
          have HV := Lib.hid (show V = false by rw [HE.out]; rfl)
          go_wp2_with fail
          go_ret
          exact ⟨by rw [HV.out]; rfl, HBC2.out⟩
        have u0 : decide (0 ≤ ea) = true := decide_eq_true a0
        by_cases a1 : ea < bp + (ni : Int)
        case neg =>
          have u1 : decide (ea < bp + (ni : Int)) = false := decide_eq_false a1
          rw [u0, u1] at HE
          clear a0 a1
          go_wp2_with fail
          refine (HGT.out _ HBT.out).mono ?_
          rintro r u1 ⟨rfl, hb1⟩
          have HBC1 := Lib.hid (bthen HBT.out hb1)
          have HTC1 := Lib.hid ((hb1.block _ (Array.getElem?_eq_some_iff.1 HTX.out).1).trans HTX.out)
          have HFC1 := Lib.hid ((hb1.block _ (Array.getElem?_eq_some_iff.1 HFT.out).1).trans HFT.out)
          clear hb1 e0 e1 e2 e3 e4 e5 f0 f1 f2 f3
          obtain ⟨X, hX⟩ : ∃ x, goesB bl (bp + ni) et el = x := ⟨_, rfl⟩
          rw [hX] at HE ⊢
          clear hX
          have e0 := Lib.cell_of_heap HTC1.out 0
          have e1 := Lib.cell_of_heap HTC1.out 1
          have e2 := Lib.cell_of_heap HTC1.out 2
          have e3 := Lib.cell_of_heap HTC1.out 3
          have e4 := Lib.cell_of_heap HTC1.out 4
          have e5 := Lib.cell_of_heap HTC1.out 5
          have f0 := Lib.cell_of_heap HFC1.out 0
          have f1 := Lib.cell_of_heap HFC1.out 1
          have f2 := Lib.cell_of_heap HFC1.out 2
          have f3 := Lib.cell_of_heap HFC1.out 3
          simp only [List.getElem?_toArray, List.getElem?_cons_zero, List.getElem?_cons_succ] at e0 e1 e2 e3 e4 e5 f0 f1 f2 f3
          go_wp2_with fail
          refine (HGE.out _ HBC1.out).mono ?_
          rintro r u2 ⟨rfl, hb2⟩
          have HBC2 := Lib.hid (bthen HBC1.out hb2)
          have HTC2 := Lib.hid ((hb2.block _ (Array.getElem?_eq_some_iff.1 HTC1.out).1).trans HTC1.out)
          have HFC2 := Lib.hid ((hb2.block _ (Array.getElem?_eq_some_iff.1 HFC1.out).1).trans HFC1.out)
          clear hb2 e0 e1 e2 e3 e4 e5 f0 f1 f2 f3
          obtain ⟨Y, hY⟩ : ∃ x, goesB bl (bp + ni) ee em = x := ⟨_, rfl⟩
          rw [hY] at HE ⊢
          clear hY
          have e0 := Lib.cell_of_heap HTC2.out 0
          have e1 := Lib.cell_of_heap HTC2.out 1
          have e2 := Lib.cell_of_heap HTC2.out 2
          have e3 := Lib.cell_of_heap HTC2.out 3
          have e4 := Lib.cell_of_heap HTC2.out 4
          have e5 := Lib.cell_of_heap HTC2.out 5
          have f0 := Lib.cell_of_heap HFC2.out 0
          have f1 := Lib.cell_of_heap HFC2.out 1
          have f2 := Lib.cell_of_heap HFC2.out 2
          have f3 := Lib.cell_of_heap HFC2.out 3
          simp only [List.getElem?_toArray, List.getElem?_cons_zero, List.getElem?_cons_succ] at e0 e1 e2 e3 e4 e5 f0 f1 f2 f3
          have HV := Lib.hid (show V = false by rw [HE.out]; rfl)
          go_wp2_with fail
          go_ret
          exact ⟨by rw [HV.out]; rfl, HBC2.out⟩
        have u1 : decide (ea < bp + (ni : Int)) = true := decide_eq_true a1
        rw [u0, u1] at HE
        clear a0 a1
        go_wp2_with fail
        refine (HGT.out _ HBT.out).mono ?_
        rintro r u1 ⟨rfl, hb1⟩
        have HBC1 := Lib.hid (bthen HBT.out hb1)
        have HTC1 := Lib.hid ((hb1.block _ (Array.getElem?_eq_some_iff.1 HTX.out).1).trans HTX.out)
        have HFC1 := Lib.hid ((hb1.block _ (Array.getElem?_eq_some_iff.1 HFT.out).1).trans HFT.out)
        clear hb1 e0 e1 e2 e3 e4 e5 f0 f1 f2 f3
        obtain ⟨X, hX⟩ : ∃ x, goesB bl (bp + ni) et el = x := ⟨_, rfl⟩
        rw [hX] at HE ⊢
        clear hX
        have e0 := Lib.cell_of_heap HTC1.out 0
        have e1 := Lib.cell_of_heap HTC1.out 1
        have e2 := Lib.cell_of_heap HTC1.out 2
        have e3 := Lib.cell_of_heap HTC1.out 3
        have e4 := Lib.cell_of_heap HTC1.out 4
        have e5 := Lib.cell_of_heap HTC1.out 5
        have f0 := Lib.cell_of_heap HFC1.out 0
        have f1 := Lib.cell_of_heap HFC1.out 1
        have f2 := Lib.cell_of_heap HFC1.out 2
        have f3 := Lib.cell_of_heap HFC1.out 3
        simp only [List.getElem?_toArray, List.getElem?_cons_zero, List.getElem?_cons_succ] at e0 e1 e2 e3 e4 e5 f0 f1 f2 f3
        go_wp2_with fail
        refine (HGE.out _ HBC1.out).mono ?_
        rintro r u2 ⟨rfl, hb2⟩
        have HBC2 := Lib.hid (bthen HBC1.out hb2)
        have HTC2 := Lib.hid ((hb2.block _ (Array.getElem?_eq_some_iff.1 HTC1.out).1).trans HTC1.out)
        have HFC2 := Lib.hid ((hb2.block _ (Array.getElem?_eq_some_iff.1 HFC1.out).1).trans HFC1.out)
        clear hb2 e0 e1 e2 e3 e4 e5 f0 f1 f2 f3
        obtain ⟨Y, hY⟩ : ∃ x, goesB bl (bp + ni) ee em = x := ⟨_, rfl⟩
        rw [hY] at HE ⊢
        clear hY
        have e0 := Lib.cell_of_heap HTC2.out 0
        have e1 := Lib.cell_of_heap HTC2.out 1
        have e2 := Lib.cell_of_heap HTC2.out 2
        have e3 := Lib.cell_of_heap HTC2.out 3
        have e4 := Lib.cell_of_heap HTC2.out 4
        have e5 := Lib.cell_of_heap HTC2.out 5
        have f0 := Lib.cell_of_heap HFC2.out 0
        have f1 := Lib.cell_of_heap HFC2.out 1
        have f2 := Lib.cell_of_heap HFC2.out 2
        have f3 := Lib.cell_of_heap HFC2.out 3
        simp only [List.getElem?_toArray, List.getElem?_cons_zero, List.getElem?_cons_succ] at e0 e1 e2 e3 e4 e5 f0 f1 f2 f3
        cases hq : X with
        | false =>
          have HV := Lib.hid (show V = false by rw [HE.out, hq]; rfl)
          go_wp2_with fail
          go_ret
          exact ⟨by rw [HV.out]; rfl, HBC2.out⟩
        | true =>
          rw [hq] at HE
          have hq8 : X = true := hq
          clear hq
          have HV := Lib.hid (show V = Y by rw [HE.out]; rfl)
          go_wp2_with fail
          go_ret
          exact ⟨by rw [HV.out]; rfl, HBC2.out⟩
      have z2 : (ek == 2) = false := by simpa using k2
      by_cases k3 : ek = 3
      · subst k3
        rw [endB_ret, HLN.out, HMN.out] at HE
        by_cases a0 : 0 ≤ ea
        case neg =>
          have u0 : decide (0 ≤ ea) = false := decide_eq_false a0
          rw [u0] at HE
          clear a0
          have HV := Lib.hid (show V = false by rw [HE.out]; rfl)
          go_wp2_with fail
          go_ret
          exact ⟨by rw [HV.out]; rfl, HBT.out⟩
        have u0 : decide (0 ≤ ea) = true := decide_eq_true a0
        by_cases a1 : ea < bp + (ni : Int)
        case neg =>
          have u1 : decide (ea < bp + (ni : Int)) = false := decide_eq_false a1
          rw [u0, u1] at HE
          clear a0 a1
          have HV := Lib.hid (show V = false by rw [HE.out]; rfl)
          go_wp2_with fail
          go_ret
          exact ⟨by rw [HV.out]; rfl, HBT.out⟩
        have u1 : decide (ea < bp + (ni : Int)) = true := decide_eq_true a1
        rw [u0, u1] at HE
        clear a0 a1
        cases hq : (et == 0) with
        | false =>
          have HV := Lib.hid (show V = false by rw [HE.out, hq]; simp)
          go_wp2_with fail
          go_ret
          exact ⟨by rw [HV.out]; rfl, HBT.out⟩
        | true =>
          rw [hq] at HE
          have hq8 : (et == 0) = true := hq
          clear hq
          cases hq : ((ll : Int) == 0) with
          | false =>
            have HV := Lib.hid (show V = false by rw [HE.out, hq]; simp)
            go_wp2_with fail
            go_ret
            exact ⟨by rw [HV.out]; rfl, HBT.out⟩
          | true =>
            rw [hq] at HE
            have hq10 : ((ll : Int) == 0) = true := hq
            clear hq
            cases hq : (ee == 0) with
            | false =>
              have HV := Lib.hid (show V = false by rw [HE.out, hq]; simp)
              go_wp2_with fail
              go_ret
              exact ⟨by rw [HV.out]; rfl, HBT.out⟩
            | true =>
              rw [hq] at HE
              have hq12 : (ee == 0) = true := hq
              clear hq
              cases hq : ((lm : Int) == 0) with
              | false =>
                have HV := Lib.hid (show V = false by rw [HE.out, hq]; simp)
                go_wp2_with fail
                go_ret
                exact ⟨by rw [HV.out]; rfl, HBT.out⟩
              | true =>
                rw [hq] at HE
                have hq14 : ((lm : Int) == 0) = true := hq
                clear hq
                have HV := Lib.hid (show V = true by rw [HE.out]; rfl)
                go_wp2_with fail
                go_ret
                exact ⟨by rw [HV.out]; rfl, HBT.out⟩
      have z3 : (ek == 3) = false := by simpa using k3
      rw [endB_out _ _ _ _ _ _ _ _ k1 k2 k3] at HE
      clear k1 k2 k3
      by_cases a0 : 0 ≤ ea
      case neg =>
        have u0 : decide (0 ≤ ea) = false := decide_eq_false a0
        have HV := Lib.hid (show V = false by exact HE.out)
        go_wp2_with fail
        go_ret
        exact ⟨by rw [HV.out]; rfl, HBT.out⟩
      have u0 : decide (0 ≤ ea) = true := decide_eq_true a0
      by_cases a1 : ea < bp + (ni : Int)
      case neg =>
        have u1 : decide (ea < bp + (ni : Int)) = false := decide_eq_false a1
        have HV := Lib.hid (show V = false by exact HE.out)
        go_wp2_with fail
        go_ret
        exact ⟨by rw [HV.out]; rfl, HBT.out⟩
      have u1 : decide (ea < bp + (ni : Int)) = true := decide_eq_true a1
      have HV := Lib.hid (show V = false by exact HE.out)
      go_wp2_with fail
      go_ret
      exact ⟨by rw [HV.out]; rfl, HBT.out⟩
end Go.Proofs.Ytniolkjeblocaaa
namespace Go.Proofs.Ytniolkjeblocaaa
open Go.RowKit
set_option maxRecDepth 100000 in
set_option maxHeartbeats 8000000 in
theorem refFunc_any (f : Fn) (C : Option Addr) (ca : Nat) (w : World) (hok : FnW f) (hS : Blocks w (.slice C f.l.length ca) f.l) :
    Calls Try.prog 55 #[.agg #[.string f.s, .int .i64 f.b, .int .i64 f.p, .slice C f.l.length ca]] w fun e w' => e = .returned (.bool (funcB f)) ∧ Below w.heap.size w w' := by
  obtain ⟨s, b, p, l⟩ := f
  obtain ⟨⟨hs, hl, -⟩, hbk⟩ := hok
  simp only at hs hl hbk hS ⊢
  have HN := Lib.hid (fun W : World => refName_any s W hs)
  obtain ⟨nl, hnl⟩ : ∃ n, l.length = n := ⟨_, rfl⟩
  have HE := Lib.hid (funcB_eq s b p l)
  have HL := Lib.hid (show l.length ≤ nl ∧ nl ≤ l.length by omega)
  rw [hnl] at HE hS hl ⊢
  have HR := Lib.hid (fun (k : Nat) (hk : k < l.length) (W : World) (hb : Below w.heap.size w W) => refBlock_any s b p l C nl ca k W hk hnl hl (hbk _ (List.getElem_mem hk)) (hS.next hb))
  have HS := Lib.hid hS
  have n9 : (nl : Int) ≤ 9223372036854775807 := by omega
  clear hbk hS hs hl hnl
  obtain ⟨V, hV⟩ : ∃ V, funcB ⟨s, b, p, l⟩ = V := ⟨_, rfl⟩
  rw [hV] at HE ⊢
  clear hV
  go_enter Try.func55, Try.ntmps55
  go_upto_region 1 with fail
  have HIN := Lib.hid (heap_alloc_new w (.cells #[.string s, .int .i64 b, .int .i64 p, .slice C nl ca] 57))
  have HB := Lib.hid (balloc (Below.refl _ w) (.cells #[.string s, .int .i64 b, .int .i64 p, .slice C nl ca] 57))
  generalize w.alloc (.cells #[.string s, .int .i64 b, .int .i64 p, .slice C nl ca] 57) = W at *
  have c0 := Lib.cell_of_heap HIN.out 0
  have c1 := Lib.cell_of_heap HIN.out 1
  have c2 := Lib.cell_of_heap HIN.out 2
  have c3 := Lib.cell_of_heap HIN.out 3
  simp only [List.getElem?_toArray, List.getElem?_cons_zero, List.getElem?_cons_succ] at c0 c1 c2 c3
  go_wp2_with fail
  refine (HN.out _).mono ?_
  rintro r w1 ⟨rfl, rfl⟩
  cases hn : nameB s with
  | false =>
    have HV := Lib.hid (show V = false by rw [HE.out, hn]; rfl)
    clear HE
    go_wp2_with fail
    go_ret
    exact ⟨by rw [HV.out]; rfl, HB.out⟩
  | true =>
    rw [hn] at HE
    clear hn
    by_cases b1 : b < 1
    case pos =>
      have tb1 : decide (b < 1) = true := decide_eq_true b1
      have HV := Lib.hid (show V = false by rw [HE.out, decide_eq_false (by omega : ¬ 1 ≤ b)]; rfl)
      clear HE
      go_wp2_with fail
      go_ret
      exact ⟨by rw [HV.out]; rfl, HB.out⟩
    have tb1 : decide (b < 1) = false := decide_eq_false b1
    by_cases b3 : 3 < b
    case pos =>
      have tb3 : decide (3 < b) = true := decide_eq_true b3
      have HV := Lib.hid (show V = false by rw [HE.out, decide_eq_false (by omega : ¬ b ≤ 3)]; simp)
      clear HE
      go_wp2_with fail
      go_ret
      exact ⟨by rw [HV.out]; rfl, HB.out⟩
    have tb3 : decide (3 < b) = false := decide_eq_false b3
    by_cases p0 : p < 0
    case pos =>
      have tp0 : decide (p < 0) = true := decide_eq_true p0
      have HV := Lib.hid (show V = false by rw [HE.out, decide_eq_false (by omega : ¬ 0 ≤ p)]; simp)
      clear HE
      go_wp2_with fail
      go_ret
      exact ⟨by rw [HV.out]; rfl, HB.out⟩
    have tp0 : decide (p < 0) = false := decide_eq_false p0
    by_cases p6 : 6 < p
    case pos =>
      have tp6 : decide (6 < p) = true := decide_eq_true p6
      have HV := Lib.hid (show V = false by rw [HE.out, decide_eq_false (by omega : ¬ p ≤ 6)]; simp)
      clear HE
      go_wp2_with fail
      go_ret
      exact ⟨by rw [HV.out]; rfl, HB.out⟩
    have tp6 : decide (6 < p) = false := decide_eq_false p6
    by_cases l16 : 16 < nl
    case pos =>
      have t16 : decide ((16 : Int) < (nl : Int)) = true := decide_eq_true (by omega)
      have HV := Lib.hid (show V = false by rw [HE.out, decide_eq_false (by omega : ¬ nl ≤ 16)]; simp)
      clear HE
      go_wp2_with fail
      go_ret
      exact ⟨by rw [HV.out]; rfl, HB.out⟩
    have t16 : decide ((16 : Int) < (nl : Int)) = false := decide_eq_false (by omega)
    rw [decide_eq_true (by omega : 1 ≤ b), decide_eq_true (by omega : b ≤ 3), decide_eq_true (by omega : 0 ≤ p), decide_eq_true (by omega : p ≤ 6), decide_eq_true (by omega : nl ≤ 16)] at HE
    have n16 : (nl : Int) ≤ 16 := by omega
    clear b1 b3 p0 p6 l16 n9
    cases l with
    | nil =>
      obtain rfl : nl = 0 := by have := HL.out; simp at this; omega
      have HV := Lib.hid (show V = !(b == 1) by rw [HE.out]; rfl)
      clear HE HL HS HR
      go_wp2_with fail
      go_ret
      exact ⟨by rw [HV.out]; rfl, HB.out⟩
    | cons c l =>
      have h0 : 0 < nl := by have := HL.out; simp at this; omega
      have hS := HS.out
      rcases hS with ⟨hq, -⟩ | ⟨_, bb, off, cap, hv, hbb, hat⟩
      · cases hq
      obtain ⟨hC, -, -⟩ := Value.slice.inj hv
      subst hC
      obtain ⟨d0, -⟩ := BkAt.next _ _ _ _ _ hbb HB.out (hat 0 (by simp))
      simp only [Nat.zero_mul, Nat.add_zero, List.getElem_cons_zero] at d0
      have HV := Lib.hid (show V = (c.p == p && (c :: l).all (blockB (c :: l))) by rw [HE.out]; rfl)
      obtain ⟨P, hP⟩ : ∃ P, c.p = P := ⟨_, rfl⟩
      rw [hP] at d0 HV
      have ez : ((nl : Int) == 0) = false := by simp; omega
      have i1 : (0 : Int) < (nl : Int) := by omega
      obtain ⟨L, hLL⟩ : ∃ L, c :: l = L := ⟨_, rfl⟩
      rw [hLL] at HR HL HV
      clear HE hv hat HS hP hLL hbb
      go_upto_region 6 with fail
      cases hq : (P == p) with
      | false =>
        have HF := Lib.hid (show V = false by rw [HV.out, hq]; rfl)
        go_quiet (fail)
        go_wp2_with fail
        go_ret
        exact ⟨by rw [HF.out]; rfl, below_drewN HB.out _⟩
      | true =>
        have HF := Lib.hid (show V = L.all (blockB L) by rw [HV.out, hq]; rfl)
        clear HV
        obtain rfl : p = P := by simp at hq; exact hq.symm
        go_quiet (fail)
        have HBW := Lib.hid (show Below w.heap.size w (W.drewN nq) from below_drewN HB.out _)
        have HIW := Lib.hid (show (W.drewN nq).heap[w.heap.size]? = some (.cells #[.string s, .int .i64 b, .int .i64 p, .slice (some ⟨bb, off, none⟩) nl ca] 57 (0, 0)) from HIN.out)
        generalize W.drewN nq = W5 at *
        go_wp2_with fail
        clear c0 c1 c2 c3 d0 hq ez i1
        go_loopw [4] (fun iv wr => ∃ k : Nat, k ≤ nl ∧ iv = .int .i64 k ∧ (L.take k).all (blockB L) = true ∧ wr.heap[w.heap.size]? = some (.cells #[.string s, .int .i64 b, .int .i64 p, .slice (some ⟨bb, off, none⟩) nl ca] 57 (0, 0)) ∧ Below w.heap.size w wr) (fun iv _ => nl - (intOf iv).toNat)
        case atStart => exact ⟨0, Nat.zero_le _, rfl, rfl, HIW.out, HBW.out⟩
        case round =>
          obtain ⟨k, hk, rfl, hs, hin, hb⟩ := hrel
          have HT := Lib.hid hs
          have HI2 := Lib.hid hin
          have HB2 := Lib.hid hb
          have c0 := Lib.cell_of_heap hin 0
          have c1 := Lib.cell_of_heap hin 1
          have c2 := Lib.cell_of_heap hin 2
          have c3 := Lib.cell_of_heap hin 3
          simp only [List.getElem?_toArray, List.getElem?_cons_zero, List.getElem?_cons_succ] at c0 c1 c2 c3
          clear hs hin hb
          by_cases hlt : k < nl
          · have hm : k < L.length := by have := HL.out; omega
            have HC := Lib.hid (HR.out k hm wr HB2.out)
            have HNX := Lib.hid (show (L.take (k + 1)).all (blockB L) = blockB L L[k] by
              rw [List.take_succ_eq_append_getElem hm, List.all_append, HT.out]
              simp)
            have HNO := Lib.hid (show blockB L L[k] = false → L.all (blockB L) = false from fun h => by
              rw [List.all_eq_false]
              exact ⟨L[k], List.getElem_mem hm, by simp [h]⟩)
            obtain ⟨X, hX⟩ : ∃ X, blockB L L[k] = X := ⟨_, rfl⟩
            rw [hX] at HC HNX HNO
            have k0 : (0 : Int) ≤ (k : Int) := Int.natCast_nonneg _
            have k1 : (k : Int) < (nl : Int) := by omega
            have HLT := Lib.hid hlt
            clear hX hm hlt
            go_wp2_with fail
            refine HC.out.mono ?_
            rintro r w2 ⟨rfl, hb2⟩
            have HI3 := Lib.hid ((hb2.block _ (Array.getElem?_eq_some_iff.1 HI2.out).1).trans HI2.out)
            have HB3 := Lib.hid (bthen HB2.out hb2)
            clear hb2 c0 c1 c2 c3
            cases X with
            | false =>
              have HZ := Lib.hid (show V = false by rw [HF.out]; exact HNO.out rfl)
              go_wp2_with fail
              go_ret
              exact ⟨by rw [HZ.out]; rfl, HB3.out⟩
            | true =>
              go_wp2_with fail
              go_roundw
              case rel => exact ⟨k + 1, HLT.out, by go_num, HNX.out, HI3.out, HB3.out⟩
              case measure => have := HLT.out; simp [intOf]; omega
          · have hd : decide ((k : Int) < (nl : Int)) = false := by simp; omega
            have HZ := Lib.hid (show V = true by
              have h := HT.out
              rw [List.take_of_length_le (by have := HL.out; omega)] at h
              rw [HF.out]; exact h)
            go_wp2_with fail
            go_ret
            exact ⟨by rw [HZ.out]; rfl, HB2.out⟩
theorem str_info0 : ∃ i : TypeInfo, Try.prog.info? 9 = some i ∧ i.zero = some (.string ⟨#[]⟩) ∧ i.size = 1 ∧ i.bytes = 16 := by
  obtain ⟨i, h1, h2, h3, h4⟩ := info_parts str_info
  exact ⟨i, h1, h2, h3, h4⟩
set_option maxRecDepth 100000 in
set_option maxHeartbeats 8000000 in
/-- all names of a module, where there are not too many -/
theorem refNames_any (m : Md) (F G : Option Addr) (nf cf ng cg : Nat) (w : World) (hnf : m.f.length = nf) (hng : m.g.length = ng) (hf16 : nf ≤ 16) (hg16 : ng ≤ 16) (hS : MdAt w (.slice F nf cf) (.slice G ng cg) m) :
    Calls Try.prog 57 #[.agg #[.slice F nf cf, .slice G ng cg]] w (NewNames (namesM m) w) := by
  have HS := Lib.hid hS
  have HNF := Lib.hid (show m.f.length ≤ nf ∧ nf ≤ m.f.length by omega)
  have HNG := Lib.hid (show m.g.length ≤ ng ∧ ng ≤ m.g.length by omega)
  have f16 : (nf : Int) ≤ 16 := by omega
  have g16 : (ng : Int) ≤ 16 := by omega
  obtain ⟨i0, qi, qz0, qz1, qz2⟩ := str_info0
  have HII := Lib.hid (And.intro qi (And.intro qz0 (And.intro qz1 qz2)))
  clear hS hnf hng hf16 hg16 qi qz0 qz1 qz2
  go_enter Try.func57, Try.ntmps57
  go_upto_region 1 with fail
  have HIN := Lib.hid (heap_alloc_new w (.cells #[.slice F nf cf, .slice G ng cg] 25))
  have HBW := Lib.hid (balloc (Below.refl _ w) (.cells #[.slice F nf cf, .slice G ng cg] 25))
  generalize w.alloc (.cells #[.slice F nf cf, .slice G ng cg] 25) = W0 at *
  go_wp2_with fail
  go_loopw [3, 4] (fun vv iv wr => ∃ i : Nat, i ≤ nf ∧ iv = .int .i64 i ∧ OwnsN wr (w.heap.size + 1) vv ((m.f.take i).map (·.s)) ∧ wr.heap[w.heap.size]? = some (.cells #[.slice F nf cf, .slice G ng cg] 25 (0, 0)) ∧ Below w.heap.size w wr ∧ w.heap.size + 1 ≤ wr.heap.size) (fun _ iv _ => nf - (intOf iv).toNat)
  case atStart => exact ⟨0, Nat.zero_le _, rfl, ⟨rfl, .inl ⟨rfl, rfl⟩⟩, HIN.out, HBW.out, (Array.getElem?_eq_some_iff.1 HIN.out).1⟩
  case round =>
    obtain ⟨i, hi, rfl, ho, hin, hb, hsz⟩ := hrel
    obtain ⟨L, hL⟩ : ∃ L, (m.f.take i).map (·.s) = L := ⟨_, rfl⟩
    rw [hL] at ho
    have HO := Lib.hid ho
    have HI := Lib.hid hin
    have HB := Lib.hid hb
    have HSZ := Lib.hid hsz
    obtain ⟨A0, z0, hv0⟩ := ho.form
    have c0 := Lib.cell_of_heap hin 0
    have c1 := Lib.cell_of_heap hin 1
    simp only [List.getElem?_toArray, List.getElem?_cons_zero, List.getElem?_cons_succ] at c0 c1
    have HLL := Lib.hid (show L.length ≤ 32 by rw [← hL]; simp; have := HNF.out; omega)
    by_cases hlt : i < nf
    · have hm : i < m.f.length := by have := HNF.out; omega
      have HNX := Lib.hid (show (m.f.take (i + 1)).map (·.s) = L ++ [m.f[i].s] by rw [← hL, List.take_succ_eq_append_getElem hm, List.map_append]; rfl)
      obtain ⟨b2, off, hA, hbl, e0⟩ := RowOf.at_ HS.out.1 hm
      subst hA
      obtain ⟨c4, -⟩ := FnAt.next _ _ _ _ _ hbl hb e0
      obtain ⟨x, hx⟩ : ∃ x, m.f[i].s = x := ⟨_, rfl⟩
      rw [hx] at c4 HNX
      obtain ⟨nL, hnL⟩ : ∃ n, L.length = n := ⟨_, rfl⟩
      rw [hnL] at hv0 HLL
      subst hv0
      have hk0 : (0 : Int) ≤ (i : Int) := Int.natCast_nonneg _
      have hk1 : (i : Int) < (nf : Int) := by omega
      have HLT := Lib.hid hlt
      have HAL := Lib.hid (ownsN_kept ho (World.grownBy_alloc wr (.cells #[.string x] 9) none) (by by_cases h : (Value.slice A0 nL z0).ownBlock = none; exact .inl h; exact .inr h))
      have HOWN := Lib.hid (show (wr.alloc (.cells #[.string x] 9)).ownsRow (w.heap.size + 1) 9 1 (.slice A0 nL z0) nL (strRow L) by have := HAL.out; rw [← hnL]; unfold OwnsN at this; rw [hnL] at this ⊢; exact this)
      have HONE := Lib.hid (show ∀ u ∈ [Value.string x], u.oneCell' = true from fun u hu => by obtain rfl : u = Value.string x := (by simpa using hu); rfl)
      have HL63 := Lib.hid (show nL + 1 ≤ maxLen by unfold maxLen; have := HLL.out; omega)
      have HL16 := Lib.hid (show (nL + 1) * 16 ≤ 140737488355328 by have := HLL.out; omega)
      have HBAS := Lib.hid (show w.heap.size + 1 ≤ (wr.alloc (.cells #[.string x] 9)).heap.size by have := HSZ.out; simp; omega)
      have HBX := Lib.hid (balloc (Below.refl _ wr) (.cells #[.string x] 9))
      have HNL := Lib.hid hnL
      clear hx hm hlt e0 ho hin hb hsz hL hnL hbl
      go_wp2_with (at_builtin; go_loud (refine wpList_append_own_at _ rfl _ _ 36 rfl (w.heap.size + 1) 9 i0 (.string ⟨#[]⟩) 1 16 Try.underlying36 HII.out.1 HII.out.2.1 HII.out.2.2.1 HII.out.2.2.2 rfl (by omega) (.slice A0 nL z0) nL (strRow L) rfl HOWN.out ⟨wr.heap.size, 0, none⟩ 1 1 [.string x] rfl rfl (cell_one_new _ _ _) HONE.out HL63.out HL16.out HBAS.out ?_; intro v' w1 hown hgrow hnil hat))
      have HG := Lib.hid hgrow
      have HOW := Lib.hid hown
      clear hgrow hown hnil hat c0 c1 c4
      go_wp2_with fail
      have HKB := Lib.hid ((HG.out.block w.heap.size (by have := HSZ.out; simp; omega) (fun e => by have := (HO.out.block _ e.symm).1; omega)).trans ((HBX.out.block _ (Array.getElem?_eq_some_iff.1 HI.out).1).trans HI.out))
      have HBB := Lib.hid (show Below w.heap.size w w1 from below_grown HG.out (bthen HB.out HBX.out).size (fun r e => by have := (HO.out.block _ e).1; omega) |> fun g => (bthen HB.out HBX.out).trans g)
      go_roundw
      case rel =>
        refine ⟨i + 1, HLT.out, by go_num, ?_, HKB.out, HBB.out, Nat.le_trans HBAS.out HG.out.size⟩
        rw [HNX.out]
        unfold OwnsN
        rw [List.length_append, HNL.out]
        simpa [strRow] using HOW.out
      case measure => have := HLT.out; simp [intOf]; omega
    · have hd : decide ((i : Int) < (nf : Int)) = false := by simp; omega
      have HF := Lib.hid (show L = m.f.map (·.s) by rw [← hL, List.take_of_length_le (by have := HNF.out; omega)])
      go_wp2_with fail
      clear c0 c1 hd
      go_loopw [3, 5] (fun vv iv wr => ∃ i : Nat, i ≤ ng ∧ iv = .int .i64 i ∧ OwnsN wr (w.heap.size + 1) vv (m.f.map (·.s) ++ (m.g.take i).map (·.s)) ∧ wr.heap[w.heap.size]? = some (.cells #[.slice F nf cf, .slice G ng cg] 25 (0, 0)) ∧ Below w.heap.size w wr ∧ w.heap.size + 1 ≤ wr.heap.size) (fun _ iv _ => ng - (intOf iv).toNat)
      case atStart => exact ⟨0, Nat.zero_le _, rfl, by rw [List.take_zero, List.map_nil, List.append_nil, ← HF.out]; exact HO.out, HI.out, HB.out, HSZ.out⟩
      case round =>
        obtain ⟨i, hi, rfl, ho, hin, hb, hsz⟩ := hrel
        obtain ⟨L, hL⟩ : ∃ L, m.f.map (·.s) ++ (m.g.take i).map (·.s) = L := ⟨_, rfl⟩
        rw [hL] at ho
        have HO := Lib.hid ho
        have HI := Lib.hid hin
        have HB := Lib.hid hb
        have HSZ := Lib.hid hsz
        obtain ⟨A0, z0, hv0⟩ := ho.form
        have c0 := Lib.cell_of_heap hin 0
        have c1 := Lib.cell_of_heap hin 1
        simp only [List.getElem?_toArray, List.getElem?_cons_zero, List.getElem?_cons_succ] at c0 c1
        have HLL := Lib.hid (show L.length ≤ 32 by rw [← hL]; simp; have := HNF.out; have := HNG.out; omega)
        by_cases hlt : i < ng
        · have hm : i < m.g.length := by have := HNG.out; omega
          have HNX := Lib.hid (show m.f.map (·.s) ++ (m.g.take (i + 1)).map (·.s) = L ++ [m.g[i].s] by rw [← hL, List.take_succ_eq_append_getElem hm, List.map_append]; rw [← List.append_assoc]; rfl)
          obtain ⟨b2, off, hA, hbl, e0⟩ := RowOf.at_ HS.out.2 hm
          subst hA
          obtain ⟨c4, -⟩ := GlAt.next _ _ _ _ _ hbl hb e0
          obtain ⟨x, hx⟩ : ∃ x, m.g[i].s = x := ⟨_, rfl⟩
          rw [hx] at c4 HNX
          obtain ⟨nL, hnL⟩ : ∃ n, L.length = n := ⟨_, rfl⟩
          rw [hnL] at hv0 HLL
          subst hv0
          have hk0 : (0 : Int) ≤ (i : Int) := Int.natCast_nonneg _
          have hk1 : (i : Int) < (ng : Int) := by omega
          have HLT := Lib.hid hlt
          have HAL := Lib.hid (ownsN_kept ho (World.grownBy_alloc wr (.cells #[.string x] 9) none) (by by_cases h : (Value.slice A0 nL z0).ownBlock = none; exact .inl h; exact .inr h))
          have HOWN := Lib.hid (show (wr.alloc (.cells #[.string x] 9)).ownsRow (w.heap.size + 1) 9 1 (.slice A0 nL z0) nL (strRow L) by have := HAL.out; rw [← hnL]; unfold OwnsN at this; rw [hnL] at this ⊢; exact this)
          have HONE := Lib.hid (show ∀ u ∈ [Value.string x], u.oneCell' = true from fun u hu => by obtain rfl : u = Value.string x := (by simpa using hu); rfl)
          have HL63 := Lib.hid (show nL + 1 ≤ maxLen by unfold maxLen; have := HLL.out; omega)
          have HL16 := Lib.hid (show (nL + 1) * 16 ≤ 140737488355328 by have := HLL.out; omega)
          have HBAS := Lib.hid (show w.heap.size + 1 ≤ (wr.alloc (.cells #[.string x] 9)).heap.size by have := HSZ.out; simp; omega)
          have HBX := Lib.hid (balloc (Below.refl _ wr) (.cells #[.string x] 9))
          have HNL := Lib.hid hnL
          clear hx hm hlt e0 ho hin hb hsz hL hnL hbl
          go_wp2_with (at_builtin; go_loud (refine wpList_append_own_at _ rfl _ _ 36 rfl (w.heap.size + 1) 9 i0 (.string ⟨#[]⟩) 1 16 Try.underlying36 HII.out.1 HII.out.2.1 HII.out.2.2.1 HII.out.2.2.2 rfl (by omega) (.slice A0 nL z0) nL (strRow L) rfl HOWN.out ⟨wr.heap.size, 0, none⟩ 1 1 [.string x] rfl rfl (cell_one_new _ _ _) HONE.out HL63.out HL16.out HBAS.out ?_; intro v' w1 hown hgrow hnil hat))
          have HG := Lib.hid hgrow
          have HOW := Lib.hid hown
          clear hgrow hown hnil hat c0 c1 c4
          go_wp2_with fail
          have HKB := Lib.hid ((HG.out.block w.heap.size (by have := HSZ.out; simp; omega) (fun e => by have := (HO.out.block _ e.symm).1; omega)).trans ((HBX.out.block _ (Array.getElem?_eq_some_iff.1 HI.out).1).trans HI.out))
          have HBB := Lib.hid (show Below w.heap.size w w1 from below_grown HG.out (bthen HB.out HBX.out).size (fun r e => by have := (HO.out.block _ e).1; omega) |> fun g => (bthen HB.out HBX.out).trans g)
          go_roundw
          case rel =>
            refine ⟨i + 1, HLT.out, by go_num, ?_, HKB.out, HBB.out, Nat.le_trans HBAS.out HG.out.size⟩
            rw [HNX.out]
            unfold OwnsN
            rw [List.length_append, HNL.out]
            simpa [strRow] using HOW.out
          case measure => have := HLT.out; simp [intOf]; omega
        · have hd : decide ((i : Int) < (ng : Int)) = false := by simp; omega
          have HF := Lib.hid (show L = namesM m by rw [← hL, List.take_of_length_le (by have := HNG.out; omega)]; rfl)
          subst hv0
          go_wp2_with fail
          go_ret
          exact ⟨_, rfl, by rw [← HF.out]; exact HO.out.strs, HB.out⟩
end Go.Proofs.Ytniolkjeblocaaa
