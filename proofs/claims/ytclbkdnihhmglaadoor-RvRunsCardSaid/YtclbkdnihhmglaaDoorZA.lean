/- Walks of the small functions of package page: what each call comes to, for every argument. A region that draws its order, whose operations only read and whose callees may lay blocks of their own, walked once: the class of worlds is all that keep what lay when the region began. Where the page at a place stands in memory: slices of pages, the comparison, the search by halves, find. The search by halves among pages, and find. -/
import Derived.Test.YtclbkdnihhmglaaDoorProg
import Derived.WalkKit
import Derived.WalkLawsBesides
import Derived.Lib.Hide
import Derived.Below
import Derived.Outline
import Derived.Test.YtclbkdnihhmglaaDoorZM
import Derived.Deep.QuietTactic
import Derived.BigQuiet
import Derived.LoopTactic
namespace Go.Proofs.YtclbkdnihhmglaaDoor
open Go.RowKit
theorem ret_int {k : IntKind} {a b : Int} (h : a = b) : Ending.returned (.int k a) = .returned (.int k b) := by rw [h]
theorem ret_bool {a b : Bool} (h : a = b) : Ending.returned (.bool a) = .returned (.bool b) := by rw [h]
theorem bthen {w W w' : World} (h : Below w.heap.size w W) (hb : Below W.heap.size W w') : Below w.heap.size w w' := h.trans (hb.mono h.size)
theorem balloc {w W : World} (h : Below w.heap.size w W) (o : Obj) : Below w.heap.size w (W.alloc o) := h.alloc h.size o

theorem perm_any (p : Int) (w : World) : Calls Tryd.prog 82 #[.int .i64 p] w fun e w' => e = .returned (.bool (M.okPerm p)) ∧ w = w' := by
  go_enter Tryd.func82, Tryd.ntmps82
  go_wp2
  all_goals go_ret
  all_goals exact ⟨ret_bool (by rw [Bool.eq_iff_iff]; simp [M.okPerm]; omega), rfl⟩
theorem page_any (a p : Int) (d : ByteArray) (a0 : 0 ≤ a) (w : World) :
    Calls Tryd.prog 72 #[.agg #[.int .u64 a, .int .i64 p, .string d]] w fun e w' => e = .returned (.bool (M.okPg ⟨a, p, d⟩)) ∧ Below w.heap.size w w' := by
  by_cases h1 : a % 256 = 0
  · have t1 : ((a % 256 == 0) : Bool) = true := by simp [h1]
    cases h2 : M.okPerm p
    · have HP := Lib.hid (fun W => (perm_any p W).mono fun e w' h => (by rw [h2] at h; exact h : e = .returned (.bool false) ∧ W = w'))
      have HE := Lib.hid (show M.okPg ⟨a, p, d⟩ = false by simp [M.okPg, h2])
      clear h2 h1
      go_enter Tryd.func72, Tryd.ntmps72
      go_wp2_with (go_at_call 82; refine (HP.out _).mono ?_; rintro e w' ⟨rfl, rfl⟩)
      all_goals go_ret
      all_goals exact ⟨ret_bool HE.out.symm, balloc (Below.refl _ _) _⟩
    · have HP := Lib.hid (fun W => (perm_any p W).mono fun e w' h => (by rw [h2] at h; exact h : e = .returned (.bool true) ∧ W = w'))
      have HE := Lib.hid (show M.okPg ⟨a, p, d⟩ = ((d.size : Int) == 256) by rw [Bool.eq_iff_iff]; simp [M.okPg, h2, h1]; omega)
      clear h2 h1
      go_enter Tryd.func72, Tryd.ntmps72
      go_wp2_with (go_at_call 82; refine (HP.out _).mono ?_; rintro e w' ⟨rfl, rfl⟩)
      all_goals go_ret
      all_goals exact ⟨ret_bool HE.out.symm, balloc (Below.refl _ _) _⟩
  · have t1 : ((a % 256 == 0) : Bool) = false := by simp [h1]
    have HE := Lib.hid (show M.okPg ⟨a, p, d⟩ = false by simp [M.okPg, h1])
    clear h1
    go_enter Tryd.func72, Tryd.ntmps72
    go_wp2_with fail
    all_goals go_ret
    all_goals exact ⟨ret_bool HE.out.symm, balloc (Below.refl _ _) _⟩
/-- is one of n places from a on beyond the last one? -/
def beyondB (a n : Int) : Bool := decide (0 < n ∧ 18446744073709551615 < a + (n - 1))
theorem beyond_any (a n : Int) (a0 : 0 ≤ a) (a1 : a ≤ 18446744073709551615) (n1 : n ≤ 9223372036854775807) (w : World) :
    Calls Tryd.prog 73 #[.int .u64 a, .int .i64 n] w fun e w' => e = .returned (.bool (beyondB a n)) ∧ w = w' := by
  by_cases h : 0 < n
  · go_enter Tryd.func73, Tryd.ntmps73
    go_wp2_with fail
    all_goals go_ret
    all_goals exact ⟨ret_bool (by rw [Bool.eq_iff_iff]; simp [beyondB]; omega), rfl⟩
  · have t1 : decide (0 < n) = false := by simp; omega
    go_enter Tryd.func73, Tryd.ntmps73
    go_wp2_with fail
    all_goals go_ret
    all_goals exact ⟨ret_bool (by rw [Bool.eq_iff_iff]; simp [beyondB]; omega), rfl⟩
end Go.Proofs.YtclbkdnihhmglaaDoor

namespace Go.Proofs.YtclbkdnihhmglaaDoor
open Go.RowKit

/-- a world in which all that lay in w lies as it lay -/
structure Past (w : World) where
  W : World
  h : Below w.heap.size w W

instance (w : World) : Inhabited (Past w) := ⟨⟨w, Below.refl _ _⟩⟩

theorem wp_region_past {P : Program} {id : Nat} {Q : Exit → Act → World → Prop} {a : Act} {w : World} {l : List Oper} (hm : P.follows .mixedOrders = true) (hB : Region.lexB .any l.toArray = true)
    (h : wpQuiet P l.toArray (fun w' => ∃ p : Past w, w' = p.W) (fun a' => ∀ w', (∃ p : Past w, w' = p.W) → Q .normal a' w') l a) : (Code.region id l.toArray true).wp P Q a w :=
  wp_region_quiet (C := fun w' => ∃ p : Past w, w' = p.W) hm hB ⟨⟨w.drew, (Below.refl _ w).drew⟩, rfl⟩ (by simpa using h)

theorem Past.cell {w : World} {b o : Nat} {v : Value} (hb : b < w.heap.size) (h : w.cell? ⟨b, o, none⟩ = some v) (p : Past w) : p.W.cell? ⟨b, o, none⟩ = some v :=
  (p.h.cell (p := ⟨b, o, none⟩) hb).trans h

theorem past_of {P : Program} {f : FuncId} {args : Array Value} {w : World} {p : Past w} {v : Value}
    (h : Calls P f args p.W fun e w' => e = .returned v ∧ Below p.W.heap.size p.W w') : Calls P f args p.W fun e w'' => e = .returned v ∧ ∃ q : Past w, w'' = q.W :=
  h.mono fun _ w'' ⟨he, hb⟩ => ⟨he, ⟨w'', bthen p.h hb⟩, rfl⟩
end Go.Proofs.YtclbkdnihhmglaaDoor

namespace Go.Proofs.YtclbkdnihhmglaaDoor
open Go.RowKit

theorem bcell {W w1 : World} (hb : Below W.heap.size W w1) : (∀ b o, b < W.heap.size → w1.cell? ⟨b, o, none⟩ = W.cell? ⟨b, o, none⟩) ∧ (∀ b o, b < W.heap.size → w1.frozen? ⟨b, o, none⟩ = W.frozen? ⟨b, o, none⟩) :=
  ⟨fun b o h => hb.cell (p := ⟨b, o, none⟩) h, fun b o h => hb.frozen (p := ⟨b, o, none⟩) h⟩

/-- pages that lie from a place on -/
def PagesIn (W : World) (b off : Nat) (m : List M.Pg) : Prop :=
  b < W.heap.size ∧ ∀ (i : Nat) (h : i < m.length), W.cell? ⟨b, off + i * 3, none⟩ = some (.int .u64 m[i].a) ∧ W.cell? ⟨b, off + i * 3 + 1, none⟩ = some (.int .i64 m[i].p) ∧ W.cell? ⟨b, off + i * 3 + 2, none⟩ = some (.string m[i].d)
theorem PagesIn.next {W W' : World} {b off : Nat} {m : List M.Pg} (h : PagesIn W b off m) (hb : Below W.heap.size W W') : PagesIn W' b off m := by
  refine ⟨Nat.lt_of_lt_of_le h.1 hb.size, fun i hi => ?_⟩
  obtain ⟨h0, h1, h2⟩ := h.2 i hi
  have hc := (bcell hb).1
  exact ⟨(hc _ _ h.1).trans h0, (hc _ _ h.1).trans h1, (hc _ _ h.1).trans h2⟩
/-- a slice of pages -/
def Pages (W : World) (v : Value) (m : List M.Pg) : Prop :=
  (m = [] ∧ (v = .slice none 0 0 ∨ ∃ a cap, v = .slice (some a) 0 cap)) ∨ (0 < m.length ∧ ∃ b off cap, v = .slice (some ⟨b, off, none⟩) m.length cap ∧ PagesIn W b off m)
theorem Pages.next {W W' : World} {v : Value} {m : List M.Pg} (h : Pages W v m) (hb : Below W.heap.size W W') : Pages W' v m := by
  rcases h with h | ⟨h1, b, off, cap, rfl, h2⟩
  · exact .inl h
  · exact .inr ⟨h1, b, off, cap, rfl, h2.next hb⟩
theorem Pages.slice {W : World} {v : Value} {m : List M.Pg} (h : Pages W v m) : ∃ A cap, v = .slice A m.length cap := by
  rcases h with ⟨rfl, rfl | ⟨a, cap, rfl⟩⟩ | ⟨_, b, off, cap, rfl, _⟩ <;> exact ⟨_, _, rfl⟩

theorem nan_any (x : Int) (w : World) : Calls Tryd.prog 83 #[.int .u64 x] w fun e w' => e = .returned (.bool false) ∧ w = w' := by
  go_enter Tryd.func83, Tryd.ntmps83
  go_wp2
  all_goals go_ret
  all_goals exact ⟨ret_bool (by simp), rfl⟩

def cmpI (x y : Int) : Int := if x < y then -1 else if y < x then 1 else 0
theorem cmp_any (x y : Int) (w : World) : Calls Tryd.prog 78 #[.int .u64 x, .int .u64 y] w fun e w' => e = .returned (.int .i64 (cmpI x y)) ∧ w = w' := by
  go_enter Tryd.func78, Tryd.ntmps78
  go_wp2_with (go_at_call 83; refine (nan_any _ _).mono ?_; rintro e w' ⟨rfl, rfl⟩)
  all_goals go_ret
  all_goals exact ⟨ret_int (by simp [cmpI]; try omega), rfl⟩

theorem cmpp_any (a p : Int) (d : ByteArray) (x : Int) (w : World) : Calls Tryd.prog 77 #[.agg #[.int .u64 a, .int .i64 p, .string d], .int .u64 x] w fun e w' => e = .returned (.int .i64 (cmpI a x)) ∧ Below w.heap.size w w' := by
  go_enter Tryd.func77, Tryd.ntmps77
  go_wp2_with (go_at_call 78; refine (cmp_any _ _ _).mono ?_; rintro e w' ⟨rfl, rfl⟩)
  go_ret
  exact ⟨rfl, balloc (Below.refl _ _) _⟩
end Go.Proofs.YtclbkdnihhmglaaDoor

namespace Go.Proofs.YtclbkdnihhmglaaDoor
open Go.RowKit

theorem cmpI_lt {x y : Int} (h : x < y) : cmpI x y = -1 := by simp [cmpI, h]
theorem cmpI_ge {x y : Int} (h : ¬ x < y) : 0 ≤ cmpI x y := by simp only [cmpI, if_neg h]; split <;> omega
theorem cmpI_eq {x y : Int} : (cmpI x y == 0) = (x == y) := by rw [Bool.eq_iff_iff]; simp [cmpI]; split <;> (try split) <;> simp <;> omega

set_option maxHeartbeats 1000000 in
theorem search_none (A : Option Addr) (cap : Nat) (x : Int) (w : World) :
    Calls Tryd.prog 76 #[.slice A 0 cap, .int .u64 x, .func (.func 77) #[] #[]] w fun e w' => e = .returned (.tuple #[.int .i64 0, .bool false]) ∧ Below w.heap.size w w' := by
  go_enter Tryd.func76, Tryd.ntmps76
  go_wp2_with fail
  go_loop [9, 10] (fun i j => i = .int .i64 0 ∧ j = .int .i64 0) (fun _ _ => 0)
  case atStart => exact ⟨rfl, rfl⟩
  case round =>
    obtain ⟨rfl, rfl⟩ := hrel
    go_wp2_with fail
    go_ret2
    exact ⟨rfl, Below.refl _ _⟩

set_option maxHeartbeats 2000000 in
theorem search_some (m : List M.Pg) (b off cap : Nat) (x : Int) (w : World) (hl : m.length ≤ 1000000) (hu : m.Pairwise (fun x y => x.a < y.a)) (hP : PagesIn w b off m) :
    Calls Tryd.prog 76 #[.slice (some ⟨b, off, none⟩) m.length cap, .int .u64 x, .func (.func 77) #[] #[]] w fun e w' => e = .returned (.tuple #[.int .i64 (M.low m x), .bool (M.there m x)]) ∧ Below w.heap.size w w' := by
  have HL := Lib.hid (fun i hi => M.lt_low hu x (i := i) hi)
  have HT := Lib.hid (M.there_iff hu x)
  have HP := Lib.hid hP
  have HB0 := Lib.hid hP.1
  have hlow := M.low_le m x
  obtain ⟨n, hn⟩ : ∃ n, m.length = n := ⟨_, rfl⟩
  obtain ⟨t, ht⟩ : ∃ t, M.low m x = t := ⟨_, rfl⟩
  rw [hn] at hl
  rw [ht, hn] at hlow
  have HN := Lib.hid hn
  have HTT := Lib.hid ht
  rw [hn, ht]
  clear hu hP hn ht
  go_enter Tryd.func76, Tryd.ntmps76
  go_wp2_with fail
  go_loopw [9, 10] (fun i j wr => ∃ i' j' : Nat, i = .int .i64 i' ∧ j = .int .i64 j' ∧ i' ≤ t ∧ t ≤ j' ∧ j' ≤ n ∧ Below w.heap.size w wr) (fun i j _ => (intOf j).toNat - (intOf i).toNat)
  case atStart => exact ⟨0, n, rfl, rfl, by omega, by omega, by omega, Below.refl _ _⟩
  case round =>
    obtain ⟨i, j, rfl, rfl, h1, h2, h3, hb⟩ := hrel
    by_cases hij : i < j
    · have hm : (i + j) / 2 < m.length := by rw [HN.out]; omega
      obtain ⟨e0, e1, e2⟩ := (HP.out.next hb).2 ((i + j) / 2) hm
      have HK := Lib.hid (HL.out _ hm)
      obtain ⟨pa, hpa⟩ : ∃ pa, m[(i + j) / 2].a = pa := ⟨_, rfl⟩
      obtain ⟨pp, hpp⟩ : ∃ pa, m[(i + j) / 2].p = pa := ⟨_, rfl⟩
      obtain ⟨pd, hpd⟩ : ∃ pa, m[(i + j) / 2].d = pa := ⟨_, rfl⟩
      rw [hpa] at e0 HK
      rw [hpp] at e1
      rw [hpd] at e2
      clear hpa hpp hpd
      have HB := Lib.hid hb
      clear hb hm
      have hs : (((i : Int) + (j : Int)).toNat : Nat) >>> 1 = (i + j) / 2 := by
        rw [Nat.shiftRight_eq_div_pow]; omega
      have hcast : ((i : Int) + (j : Int)) / 2 = (((i + j) / 2 : Nat) : Int) := by omega
      have HC := Lib.hid hcast
      clear hcast
      go_wp2_with fail
      refine (cmpp_any _ _ _ _ _).mono ?_
      rintro e w1 ⟨rfl, hb1⟩
      have HB1 := Lib.hid hb1
      clear hb1
      by_cases hx : pa < x
      · rw [cmpI_lt hx]
        have hk := HK.out.1 hx
        rw [HTT.out] at hk
        clear hx
        go_wp2_with fail
        go_roundw
        case rel => exact ⟨(i + j) / 2 + 1, j, by rw [HC.out]; go_num, rfl, by omega, h2, h3, bthen HB.out HB1.out⟩
        case measure => simp [intOf]; omega
      · have hg := cmpI_ge hx
        obtain ⟨c, hc⟩ : ∃ c, cmpI pa x = c := ⟨_, rfl⟩
        rw [hc] at hg ⊢
        have hk : ¬ ((i + j) / 2 < M.low m x) := fun h => hx (HK.out.2 h)
        rw [HTT.out] at hk
        clear hx hc
        have hcz : decide (c < 0) = false := by simp; omega
        go_wp2_with fail
        go_roundw
        case rel => exact ⟨i, (i + j) / 2, rfl, by rw [HC.out], h1, by omega, by omega, bthen HB.out HB1.out⟩
        case measure => simp [intOf]; omega
    · obtain rfl : i = t := by omega
      by_cases hin : i < n
      · have hm : i < m.length := by rw [HN.out]; omega
        obtain ⟨e0, e1, e2⟩ := (HP.out.next hb).2 i hm
        have HTH := Lib.hid (show M.there m x = (m[i].a == x) by
          rw [Bool.eq_iff_iff, HT.out]
          have h := HTT.out
          constructor
          · rintro ⟨h1, h2⟩
            simp only [h] at h2
            simp [h2]
          · intro h3
            simp at h3
            exact ⟨by rw [h]; exact hm, by simp only [h]; exact h3⟩)
        obtain ⟨pa, hpa⟩ : ∃ pa, m[i].a = pa := ⟨_, rfl⟩
        obtain ⟨pp, hpp⟩ : ∃ pa, m[i].p = pa := ⟨_, rfl⟩
        obtain ⟨pd, hpd⟩ : ∃ pa, m[i].d = pa := ⟨_, rfl⟩
        rw [hpa] at e0 HTH
        rw [hpp] at e1
        rw [hpd] at e2
        clear hpa hpp hpd
        have HB := Lib.hid hb
        clear hb hm
        have HE := Lib.hid (cmpI_eq (x := pa) (y := x))
        obtain ⟨c, hc⟩ : ∃ c, cmpI pa x = c := ⟨_, rfl⟩
        have HCP := Lib.hid (cmpp_any pa pp pd x wr)
        rw [hc] at HE HCP
        clear hc
        go_wp2_with fail
        refine HCP.out.mono ?_
        rintro e w1 ⟨rfl, hb1⟩
        have HB1 := Lib.hid hb1
        clear hb1
        go_wp2_with fail
        go_ret2
        exact ⟨by rw [HTH.out, ← HE.out]; rfl, bthen HB.out HB1.out⟩
      · have hth : M.there m x = false := by
          cases h : M.there m x
          · rfl
          · obtain ⟨h1, _⟩ := HT.out.1 h
            rw [HTT.out, HN.out] at h1
            omega
        have HTH := Lib.hid hth
        have HB := Lib.hid hb
        clear hth hb
        have hnlt : decide ((i : Int) < (n : Int)) = false := by simp; omega
        go_wp2_with fail
        go_ret2
        exact ⟨by rw [HTH.out]; rfl, HB.out⟩

/-- where the page at x stands, or would stand, and whether it is there -/
theorem find_any {m : List M.Pg} {v : Value} (x : Int) {w : World} (hP : Pages w v m) (hl : m.length ≤ 1000000) (hu : m.Pairwise (fun x y => x.a < y.a)) :
    Calls Tryd.prog 65 #[v, .int .u64 x] w fun e w' => e = .returned (.tuple #[.int .i64 (M.low m x), .bool (M.there m x)]) ∧ Below w.heap.size w w' := by
  have HC := Lib.hid (show Calls Tryd.prog 76 #[v, .int .u64 x, .func (.func 77) #[] #[]] w fun e w' => e = .returned (.tuple #[.int .i64 (M.low m x), .bool (M.there m x)]) ∧ Below w.heap.size w w' by
    rcases hP with ⟨rfl, rfl | ⟨a, cap, rfl⟩⟩ | ⟨_, b, off, cap, rfl, h⟩
    · exact search_none _ _ x w
    · exact search_none _ _ x w
    · exact search_some m b off cap x w hl hu h)
  clear hP hl hu
  obtain ⟨t, ht⟩ : ∃ t, M.low m x = t := ⟨_, rfl⟩
  obtain ⟨q, hq⟩ : ∃ q, M.there m x = q := ⟨_, rfl⟩
  rw [ht, hq] at HC ⊢
  clear ht hq
  go_enter Tryd.func65, Tryd.ntmps65
  go_wp2_with fail
  refine HC.out.mono ?_
  rintro e w1 ⟨rfl, hb1⟩
  have HB1 := Lib.hid hb1
  clear hb1
  go_wp2_with fail
  go_ret2
  exact ⟨rfl, HB1.out⟩
end Go.Proofs.YtclbkdnihhmglaaDoor
