/- grants: is there a page at a place, and does it grant perm? -/
import Derived.Test.YtfhkikdohmbndaaP4
namespace Go.Proofs.Ytfhkikdohmbndaa
open Go.RowKit

/-- has p all bits of perm? -/
def okBits (p perm : Int) : Bool := bits BinOp.and IntKind.i64 p perm == perm
/-- is there a page at x, and does it grant perm? -/
def grantB (m : List M.Pg) (x perm : Int) : Bool := M.there m x && (match m[M.low m x]? with | some q => okBits q.p perm | none => false)

set_option maxHeartbeats 1000000 in
theorem grants_no {m : List M.Pg} {v : Value} {x perm : Int} {w : World} (hP : Pages w v m) (hl : m.length ≤ 1000000) (hu : m.Pairwise (fun x y => x.a < y.a)) (ht : M.there m x = false) :
    Calls Try.prog 152 #[v, .int .u64 x, .int .i64 perm] w fun e w' => e = .returned (.bool false) ∧ Below w.heap.size w w' := by
  have HF := Lib.hid (find_any x hP hl hu)
  rw [ht] at HF
  obtain ⟨t, e⟩ : ∃ t, M.low m x = t := ⟨_, rfl⟩
  rw [e] at HF
  clear hP hu ht hl e
  go_enter Try.func152, Try.ntmps152
  go_wp2_with fail
  refine HF.out.mono ?_
  rintro e w1 ⟨rfl, hb1⟩
  have HB1 := Lib.hid hb1
  clear hb1
  go_wp2_with fail
  go_ret
  exact ⟨rfl, HB1.out⟩
set_option maxHeartbeats 1000000 in
theorem grants_some (m : List M.Pg) (b off cap : Nat) (x perm : Int) (w : World) (hl : m.length ≤ 1000000) (hu : m.Pairwise (fun x y => x.a < y.a)) (hP : PagesIn w b off m) (i : Nat) (hi : i < m.length) (e : M.low m x = i) (ht : M.there m x = true) :
    Calls Try.prog 152 #[.slice (some ⟨b, off, none⟩) m.length cap, .int .u64 x, .int .i64 perm] w fun e w' => e = .returned (.bool (okBits m[i].p perm)) ∧ Below w.heap.size w w' := by
  have HF := Lib.hid (find_any (v := .slice (some ⟨b, off, none⟩) m.length cap) x (w := w) (.inr ⟨by omega, b, off, cap, rfl, hP⟩) hl hu)
  have HP := Lib.hid hP
  rw [e, ht] at HF
  obtain ⟨n, hn⟩ : ∃ n, m.length = n := ⟨_, rfl⟩
  rw [hn] at hl HF ⊢
  have HN := Lib.hid hn
  have hi' : i < n := by omega
  clear hP hn hu ht e
  cases hq : okBits m[i].p perm
  all_goals
    go_enter Try.func152, Try.ntmps152
    go_wp2_with fail
    refine HF.out.mono ?_
    rintro e w1 ⟨rfl, hb1⟩
    obtain ⟨e0, e1, e2⟩ := (HP.out.next hb1).2 i hi
    obtain ⟨pp, hpp⟩ : ∃ pa, m[i].p = pa := ⟨_, rfl⟩
    rw [hpp] at e1 hq
    have HB1 := Lib.hid hb1
    first
      | (have tb : (bits BinOp.and IntKind.i64 pp perm != perm) = true := by simpa [okBits] using hq)
      | (have tb : (bits BinOp.and IntKind.i64 pp perm != perm) = false := by simpa [okBits] using hq)
    clear hb1 e0 e2 hq hpp
    go_wp2_with fail
    go_ret
    exact ⟨rfl, HB1.out⟩
theorem grants_any {m : List M.Pg} {v : Value} (x perm : Int) {w : World} (hP : Pages w v m) (hl : m.length ≤ 1000000) (hu : m.Pairwise (fun x y => x.a < y.a)) :
    Calls Try.prog 152 #[v, .int .u64 x, .int .i64 perm] w fun e w' => e = .returned (.bool (grantB m x perm)) ∧ Below w.heap.size w w' := by
  cases ht : M.there m x
  · have := grants_no (perm := perm) hP hl hu ht
    simpa [grantB, ht] using this
  · obtain ⟨h1, h2⟩ := (M.there_iff hu x).1 ht
    rcases hP with ⟨rfl, _⟩ | ⟨_, b, off, cap, rfl, h⟩
    · simp at h1
    · refine (grants_some m b off cap x perm w hl hu h _ h1 rfl ht).mono fun e w' ⟨he, hb⟩ => ⟨?_, hb⟩
      rw [he]
      exact ret_bool (by simp [grantB, ht, h1])
end Go.Proofs.Ytfhkikdohmbndaa
