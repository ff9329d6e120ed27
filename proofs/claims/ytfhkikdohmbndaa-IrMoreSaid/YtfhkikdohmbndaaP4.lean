/- Right: is memory right? -/
import Derived.Test.YtfhkikdohmbndaaP3
import Derived.Test.YtfhkikdohmbndaaQ
import Derived.Laws.Rows
namespace Go.Proofs.Ytfhkikdohmbndaa
open Go.RowKit

set_option maxHeartbeats 1000000 in
theorem right_long (A : Option Addr) (n cap : Nat) (w : World) (hn : 64 < n) (hm : n ≤ 9223372036854775807) :
    Calls Try.prog 112 #[.slice A n cap] w fun e w' => e = .returned (.bool false) ∧ Below w.heap.size w w' := by
  go_enter Try.func112, Try.ntmps112
  go_wp2_with fail
  go_ret
  exact ⟨rfl, Below.refl _ _⟩
set_option maxHeartbeats 1000000 in
theorem right_none (A : Option Addr) (cap : Nat) (w : World) :
    Calls Try.prog 112 #[.slice A 0 cap] w fun e w' => e = .returned (.bool true) ∧ Below w.heap.size w w' := by
  go_enter Try.func112, Try.ntmps112
  go_wp2_with fail
  go_loop [10] (fun i => i = .int .i64 0) (fun _ => 0)
  case atStart => rfl
  case round =>
    obtain rfl := hrel
    go_wp2_with fail
    go_ret
    exact ⟨rfl, Below.refl _ _⟩

theorem page_new (w : World) (a p : Int) (d : ByteArray) (t : TypeId) : (w.alloc (.cells #[.int .u64 a, .int .i64 p, .string d] t)).cell? ⟨w.heap.size, 0, none⟩ = some (.int .u64 a) ∧
    (w.alloc (.cells #[.int .u64 a, .int .i64 p, .string d] t)).cell? ⟨w.heap.size, 1, none⟩ = some (.int .i64 p) ∧ (w.alloc (.cells #[.int .u64 a, .int .i64 p, .string d] t)).cell? ⟨w.heap.size, 2, none⟩ = some (.string d) := by
  have h := heap_alloc_new w (.cells #[.int .u64 a, .int .i64 p, .string d] t)
  refine ⟨?_, ?_, ?_⟩ <;> (unfold World.cell?; rw [h]; rfl)
/-- is the page at i right, and above the one ahead of it? -/
def okAt (m : List M.Pg) (i : Nat) (h : i < m.length) : Bool := M.okPg m[i] && (decide (i = 0) || decide (m[i - 1].a < m[i].a))
def rightB (m : List M.Pg) : Bool := decide (m.length ≤ 64 ∧ ∀ i (h : i < m.length), okAt m i h = true)

theorem right_no {m : List M.Pg} {i : Nat} (h : i < m.length) (hf : okAt m i h = false) : rightB m = false := by
  simp only [rightB, decide_eq_false_iff_not]
  rintro ⟨_, h2⟩
  rw [h2 i h] at hf; cases hf

set_option maxHeartbeats 4000000 in
theorem right_some (m : List M.Pg) (b off cap : Nat) (w : World) (hl : m.length ≤ 64) (h0 : ∀ x ∈ m, 0 ≤ x.a) (hP : PagesIn w b off m) :
    Calls Try.prog 112 #[.slice (some ⟨b, off, none⟩) m.length cap] w fun e w' => e = .returned (.bool (rightB m)) ∧ Below w.heap.size w w' := by
  have HP := Lib.hid hP
  have H0 := Lib.hid h0
  have HL := Lib.hid hl
  obtain ⟨n, hn⟩ : ∃ n, m.length = n := ⟨_, rfl⟩
  rw [hn] at hl ⊢
  have HN := Lib.hid hn
  clear hP hn h0
  have hd64 : decide ((64 : Int) < (n : Int)) = false := by simp; omega
  go_enter Try.func112, Try.ntmps112
  go_wp2_with fail
  go_loopw [10] (fun i wr => ∃ i' : Nat, i = .int .i64 i' ∧ i' ≤ n ∧ (∀ j (h : j < m.length), j < i' → okAt m j h = true) ∧ Below w.heap.size w wr) (fun i _ => n - (intOf i).toNat)
  case atStart => exact ⟨0, rfl, by omega, fun j _ h => by omega, Below.refl _ _⟩
  case round =>
    obtain ⟨i, rfl, h1, h2, hb⟩ := hrel
    have H2 := Lib.hid h2
    have HB := Lib.hid hb
    clear h2 hb
    by_cases hlt : i < n
    · have hm : i < m.length := by rw [HN.out]; omega
      obtain ⟨e0, e1, e2⟩ := (HP.out.next HB.out).2 i hm
      obtain ⟨pa, hpa⟩ : ∃ pa, m[i].a = pa := ⟨_, rfl⟩
      obtain ⟨pp, hpp⟩ : ∃ pa, m[i].p = pa := ⟨_, rfl⟩
      obtain ⟨pd, hpd⟩ : ∃ pa, m[i].d = pa := ⟨_, rfl⟩
      have HO := Lib.hid (show M.okPg m[i] = M.okPg ⟨pa, pp, pd⟩ by rw [← hpa, ← hpp, ← hpd])
      rw [hpa] at e0
      rw [hpp] at e1
      rw [hpd] at e2
      have p0 : 0 ≤ pa := hpa ▸ H0.out _ (List.getElem_mem hm)
      have HPA := Lib.hid hpa
      clear hpa hpp hpd
      cases hok : M.okPg ⟨pa, pp, pd⟩
      · have HC := Lib.hid (fun W => (page_any pa pp pd p0 W).mono fun e w' h => (by rw [hok] at h; exact h : e = .returned (.bool false) ∧ Below W.heap.size W w'))
        rw [hok] at HO
        clear hok
        have HF := Lib.hid (right_no (m := m) hm (by simp [okAt, HO.out]))
        go_wp2_with fail
        have F := Lib.hid (page_new wr pa pp pd 39)
        have BW := Lib.hid (balloc HB.out (.cells #[.int .u64 pa, .int .i64 pp, .string pd] 39))
        have BX := Lib.hid (balloc (Below.refl _ wr) (.cells #[.int .u64 pa, .int .i64 pp, .string pd] 39))
        have HZ := Lib.hid (show wr.heap.size < (wr.alloc (.cells #[.int .u64 pa, .int .i64 pp, .string pd] 39)).heap.size by simp)
        generalize wr.alloc (.cells #[.int .u64 pa, .int .i64 pp, .string pd] 39) = W0 at *
        generalize wr.heap.size = z at *
        have f0 := fun p => Past.cell HZ.out F.out.1 p
        have f1 := fun p => Past.cell HZ.out F.out.2.1 p
        have f2 := fun p => Past.cell HZ.out F.out.2.2 p
        refine wp_region_past (by kernel_rfl) (by kernel_rfl) ?_
        repeat (go_big_quiet_step (first | (go_at_call 151; refine past_of (HC.out _))))
        refine wpQuiet_nil ?_
        rintro _ ⟨⟨W1, hb1⟩, rfl⟩
        clear f0 f1 f2
        have HB1 := Lib.hid (bthen BW.out hb1)
        clear hb1
        go_wp2_with fail
        go_ret
        exact ⟨by rw [HF.out]; rfl, HB1.out⟩
      · have HC := Lib.hid (fun W => (page_any pa pp pd p0 W).mono fun e w' h => (by rw [hok] at h; exact h : e = .returned (.bool true) ∧ Below W.heap.size W w'))
        rw [hok] at HO
        clear hok
        by_cases hi0 : i = 0
        · have hd0 : decide (0 < i) = false := by simp; omega
          have HS := Lib.hid (show okAt m i hm = true by unfold okAt; rw [HO.out]; simp [hi0])
          clear hi0
          go_wp2_with fail
          have F := Lib.hid (page_new wr pa pp pd 39)
          have BW := Lib.hid (balloc HB.out (.cells #[.int .u64 pa, .int .i64 pp, .string pd] 39))
          have BX := Lib.hid (balloc (Below.refl _ wr) (.cells #[.int .u64 pa, .int .i64 pp, .string pd] 39))
          have HZ := Lib.hid (show wr.heap.size < (wr.alloc (.cells #[.int .u64 pa, .int .i64 pp, .string pd] 39)).heap.size by simp)
          generalize wr.alloc (.cells #[.int .u64 pa, .int .i64 pp, .string pd] 39) = W0 at *
          generalize wr.heap.size = z at *
          have f0 := fun p => Past.cell HZ.out F.out.1 p
          have f1 := fun p => Past.cell HZ.out F.out.2.1 p
          have f2 := fun p => Past.cell HZ.out F.out.2.2 p
          refine wp_region_past (by kernel_rfl) (by kernel_rfl) ?_
          repeat (go_big_quiet_step (first | (go_at_call 151; refine past_of (HC.out _))))
          refine wpQuiet_nil ?_
          rintro _ ⟨⟨W1, hb1⟩, rfl⟩
          clear f0 f1 f2
          have HB1 := Lib.hid (bthen BW.out hb1)
          clear hb1
          go_wp2_with fail
          go_roundw
          case rel => exact ⟨i + 1, by go_num, by omega, fun j h hj => by
            by_cases e : j = i
            · subst e; exact HS.out
            · exact H2.out j h (by omega), HB1.out⟩
          case measure => simp [intOf]; omega
        · have hd0 : decide (0 < i) = true := by simp; omega
          have hm1 : i - 1 < m.length := by omega
          have g0 := ((HP.out.next HB.out).2 (i - 1) hm1).1
          obtain ⟨qa, hqa⟩ : ∃ qa, m[i - 1].a = qa := ⟨_, rfl⟩
          rw [hqa] at g0
          have BI := Lib.hid (HP.out.next HB.out).1
          have i1 : IntKind.i64.wrap ((i : Int) - 1) = (i : Int) - 1 := by rw [IntKind.wrap_i64]; omega
          have i2 : (0 : Int) ≤ (i : Int) - 1 := by omega
          have i3 : (i : Int) - 1 < (n : Int) := by omega
          have i4 : ((i : Int) - 1).toNat = i - 1 := by omega
          by_cases hlt2 : qa < pa
          · have hd2 : decide (pa ≤ qa) = false := by simp; omega
            have HS := Lib.hid (show okAt m i hm = true by simp [okAt, HO.out, hqa, HPA.out, hlt2])
            clear hi0 hqa hlt2
            go_wp2_with fail
            have F := Lib.hid (page_new wr pa pp pd 39)
            have BW := Lib.hid (balloc HB.out (.cells #[.int .u64 pa, .int .i64 pp, .string pd] 39))
            have BX := Lib.hid (balloc (Below.refl _ wr) (.cells #[.int .u64 pa, .int .i64 pp, .string pd] 39))
            have HZ := Lib.hid (show wr.heap.size < (wr.alloc (.cells #[.int .u64 pa, .int .i64 pp, .string pd] 39)).heap.size by simp)
            generalize wr.alloc (.cells #[.int .u64 pa, .int .i64 pp, .string pd] 39) = W0 at *
            have g1 := fun p => Past.cell (w := W0) (b := b) (by have := BI.out; have := BX.out.size; omega) (((bcell BX.out).1 _ _ BI.out).trans g0) p
            clear g0
            generalize wr.heap.size = z at *
            have f0 := fun p => Past.cell HZ.out F.out.1 p
            have f1 := fun p => Past.cell HZ.out F.out.2.1 p
            have f2 := fun p => Past.cell HZ.out F.out.2.2 p
            refine wp_region_past (by kernel_rfl) (by kernel_rfl) ?_
            repeat (go_big_quiet_step (first | (go_at_call 151; refine past_of (HC.out _))))
            refine wpQuiet_nil ?_
            rintro _ ⟨⟨W1, hb1⟩, rfl⟩
            clear f0 f1 f2
            have HB1 := Lib.hid (bthen BW.out hb1)
            clear hb1 g1 i1
            go_wp2_with fail
            go_roundw
            case rel => exact ⟨i + 1, by go_num, by omega, fun j h hj => by
              by_cases e : j = i
              · subst e; exact HS.out
              · exact H2.out j h (by omega), HB1.out⟩
            case measure => simp [intOf]; omega
          · have hd2 : decide (pa ≤ qa) = true := by simp; omega
            have HF := Lib.hid (right_no (m := m) hm (by simp [okAt, HO.out, hqa, HPA.out, hlt2, hi0]))
            clear hi0 hqa hlt2
            go_wp2_with fail
            have F := Lib.hid (page_new wr pa pp pd 39)
            have BW := Lib.hid (balloc HB.out (.cells #[.int .u64 pa, .int .i64 pp, .string pd] 39))
            have BX := Lib.hid (balloc (Below.refl _ wr) (.cells #[.int .u64 pa, .int .i64 pp, .string pd] 39))
            have HZ := Lib.hid (show wr.heap.size < (wr.alloc (.cells #[.int .u64 pa, .int .i64 pp, .string pd] 39)).heap.size by simp)
            generalize wr.alloc (.cells #[.int .u64 pa, .int .i64 pp, .string pd] 39) = W0 at *
            have g1 := fun p => Past.cell (w := W0) (b := b) (by have := BI.out; have := BX.out.size; omega) (((bcell BX.out).1 _ _ BI.out).trans g0) p
            clear g0
            generalize wr.heap.size = z at *
            have f0 := fun p => Past.cell HZ.out F.out.1 p
            have f1 := fun p => Past.cell HZ.out F.out.2.1 p
            have f2 := fun p => Past.cell HZ.out F.out.2.2 p
            refine wp_region_past (by kernel_rfl) (by kernel_rfl) ?_
            repeat (go_big_quiet_step (first | (go_at_call 151; refine past_of (HC.out _))))
            refine wpQuiet_nil ?_
            rintro _ ⟨⟨W1, hb1⟩, rfl⟩
            clear f0 f1 f2
            have HB1 := Lib.hid (bthen BW.out hb1)
            clear hb1 g1 i1
            go_wp2_with fail
            go_ret
            exact ⟨by rw [HF.out]; rfl, HB1.out⟩
    · have hnlt : decide ((i : Int) < (n : Int)) = false := by simp; omega
      have HF := Lib.hid (show rightB m = true by
        simp only [rightB, decide_eq_true_eq]
        exact ⟨HL.out, fun j h => H2.out j h (by rw [HN.out] at h; omega)⟩)
      go_wp2_with fail
      go_ret
      exact ⟨by rw [HF.out]; rfl, HB.out⟩

theorem Right.of {m : List M.Pg} (h : rightB m = true) (h0 : ∀ x ∈ m, 0 ≤ x.a) (h1 : ∀ x ∈ m, x.a ≤ 18446744073709551615) : M.Right m := by
  simp only [rightB, decide_eq_true_eq] at h
  obtain ⟨hl, ho⟩ := h
  have ho1 : ∀ i (h : i < m.length), M.okPg m[i] = true := fun i h => by have := ho i h; simp [okAt] at this; exact this.1
  have ho2 : ∀ i (h : i + 1 < m.length), m[i].a < m[i + 1].a := fun i h => by have := ho (i + 1) h; simp [okAt] at this; exact this.2
  refine ⟨hl, fun x hx => ?_, ?_, h0, h1⟩
  · obtain ⟨i, hi, rfl⟩ := List.getElem_of_mem hx
    exact ho1 i hi
  · rw [List.pairwise_iff_getElem]
    intro i j hi hj hij
    induction j with
    | zero => omega
    | succ j ih =>
      by_cases e : i = j
      · subst e; exact ho2 i hj
      · have := ih (by omega) (by omega); have := ho2 j hj; omega
theorem Right.rb {m : List M.Pg} (h : M.Right m) : rightB m = true := by
  simp only [rightB, decide_eq_true_eq]
  refine ⟨h.len, fun i hi => ?_⟩
  unfold okAt
  rw [h.ok _ (List.getElem_mem hi)]
  by_cases e : i = 0
  · simp [e]
  · have := h.at_lt (i := i - 1) (j := i) (by omega) hi
    simp [this]

/-- Right, at every memory -/
theorem right_any {m : List M.Pg} {v : Value} {w : World} (hP : Pages w v m) (hl : m.length ≤ 9223372036854775807) (h0 : ∀ x ∈ m, 0 ≤ x.a) :
    Calls Try.prog 112 #[v] w fun e w' => e = .returned (.bool (rightB m)) ∧ Below w.heap.size w w' := by
  rcases hP with ⟨rfl, h⟩ | ⟨_, b, off, cap, rfl, h⟩
  · obtain ⟨A, cap, rfl⟩ : ∃ A cap, v = .slice A 0 cap := by rcases h with rfl | ⟨a, cap, rfl⟩ <;> exact ⟨_, _, rfl⟩
    exact right_none A cap w
  · by_cases hs : m.length ≤ 64
    · exact right_some m b off cap w hs h0 h
    · refine (right_long _ _ _ w (by omega) hl).mono fun e w' ⟨he, hb⟩ => ⟨?_, hb⟩
      rw [he]
      exact ret_bool (by simp [rightB, hs])
end Go.Proofs.Ytfhkikdohmbndaa
