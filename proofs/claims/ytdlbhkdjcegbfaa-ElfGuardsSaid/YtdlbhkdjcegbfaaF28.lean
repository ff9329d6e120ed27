/- ElfGuards: no page of a loaded image is both written and holds instructions; where it begins a page holds some. -/
import Derived.Test.YtdlbhkdjcegbfaaF27
import Derived.Test.YtdlbhkdjcegbfaaF11
import Derived.BigQuiet
import Derived.Deep.QuietTactic
namespace Go.Proofs.Ytdlbhkdjcegbfaa
open Go.RowKit

theorem Pages.at_ {W : World} {A : Option Addr} {n cap : Nat} {m : List M.Pg} (h : Pages W (.slice A n cap) m) {i : Nat} (hi : i < m.length) :
    ∃ b off, A = some ⟨b, off, none⟩ ∧ b < W.heap.size ∧ W.cell? ⟨b, off + i * 3, none⟩ = some (.int .u64 m[i].a) ∧ W.cell? ⟨b, off + i * 3 + 1, none⟩ = some (.int .i64 m[i].p) ∧ W.cell? ⟨b, off + i * 3 + 2, none⟩ = some (.string m[i].d) := by
  rcases h with ⟨rfl, -⟩ | ⟨_, b, off, c, e, h1, h2⟩
  · simp at hi
  · exact ⟨b, off, (Value.slice.inj e).1, h1, h2 i hi⟩
theorem Pages.count {W : World} {A : Option Addr} {n cap : Nat} {m : List M.Pg} (h : Pages W (.slice A n cap) m) : m.length = n := by
  obtain ⟨A', c', e⟩ := h.slice
  exact (Value.slice.inj e).2.1.symm
/-- is that page where it begins? -/
def entB (e : Int) (x : M.Pg) : Bool := decide (x.p % 2 = 1) && (decide (x.a ≤ e) && decide (e - x.a < 256))
/-- what is told of a loaded image's pages -/
theorem load_guards {l : List Sg} {e : Int} (hm : mayB l e = true) (hI : ∀ s ∈ l, SgIn s) (hE : ldE l e = 0) :
    M.Right (loadF [] l) ∧ (∀ x ∈ loadF [] l, 1 ≤ x.p ∧ x.p ≤ 7 ∧ x.p % 4 ≠ 3) ∧ (loadF [] l).any (entB e) = true := by
  have hok := may_ok hm hI
  have hE' : loadE [] l = 0 := by unfold ldE at hE; rwa [if_pos hm] at hE
  obtain ⟨h1, -, -, h4, -, h6⟩ := load_all l [] rightNil hok hE'
  refine ⟨h1, fun x hx => ?_, ?_⟩
  · rcases h4 x hx with ⟨y, hy, -⟩ | ⟨g, hg, e⟩
    · simp at hy
    · have := hok g hg
      rw [e]
      exact ⟨this.p1, this.p7, this.p3⟩
  · unfold mayB beginB at hm
    simp only [Bool.and_eq_true] at hm
    obtain ⟨g, hg, hat⟩ := List.any_eq_true.1 hm.2
    unfold atB at hat
    simp only [Bool.and_eq_true, decide_eq_true_eq] at hat
    have hgo := hok g hg
    have hpg := hgo.pages
    have hj : ((e - g.a) / 256).toNat < sgN g := by omega
    obtain ⟨x, hx, e1, e2⟩ := h6 g hg _ hj
    refine List.any_eq_true.2 ⟨x, hx, ?_⟩
    unfold entB
    simp only [Bool.and_eq_true, decide_eq_true_eq]
    omega
set_option maxRecDepth 100000 in
set_option maxHeartbeats 8000000 in
theorem guards_no (l : List Sg) (e : Int) (A : Option Addr) (nv cap : Nat) (inp : ByteArray) (w : World) (hS : Segs w (.slice A nv cap) l) (hI : ∀ s ∈ l, SgIn s) (h0 : ldE l e ≠ 0) :
    Calls Try.prog 4 #[.agg #[.int .u64 e, .slice A nv cap], .string inp] w fun r w' => r = .returned (.bool true) ∧ Below w.heap.size w w' := by
  have HL := Lib.hid (fun (W : World) (hb : Below w.heap.size w W) => eload_any l e A nv cap inp W (hS.next hb) hI)
  obtain ⟨E, hE⟩ : ∃ E, ldE l e = E := ⟨_, rfl⟩
  rw [hE] at h0
  have q0 : (E != 0) = true := by simpa using h0
  have HE := Lib.hid hE
  clear hS hI h0 hE
  go_enter Try.func4, Try.ntmps4
  go_wp2_with fail
  refine (eshown_any _).mono ?_
  rintro r w1 ⟨rfl, hb⟩
  have HB1 := Lib.hid (bthen (balloc (Below.refl _ w) _) hb)
  have k0 : w1.cell? ⟨w.heap.size, 0, none⟩ = some (.int .u64 e) := by rw [(bcell hb).1 _ _ (by simp)]; simp [go_sem]
  have k1 : w1.cell? ⟨w.heap.size, 1, none⟩ = some (.slice A nv cap) := by rw [(bcell hb).1 _ _ (by simp)]; simp [go_sem]
  clear hb
  go_wp2_with fail
  refine (HL.out _ HB1.out).mono ?_
  rintro r w2 ⟨k, rfl, hb, -, -⟩
  rw [HE.out]
  have HB2 := Lib.hid (bthen HB1.out hb)
  have HZ := Lib.hid (Mach.new w2 zeroMc)
  clear hb k0 k1
  go_wp2_with (first | (refine alloc_mach rfl rfl ?_) | (refine store_mach rfl _ _ rfl _ _ rfl rfl _ HZ.out ?_))
  go_ret
  exact ⟨rfl, below_row (balloc HB2.out _) _ (by have := HB2.out.size; omega)⟩
end Go.Proofs.Ytdlbhkdjcegbfaa
