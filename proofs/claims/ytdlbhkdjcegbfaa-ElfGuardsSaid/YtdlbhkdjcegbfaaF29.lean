/- ElfGuards, where there is a machine: each of its pages is looked at. -/
import Derived.Test.YtdlbhkdjcegbfaaF28
namespace Go.Proofs.Ytdlbhkdjcegbfaa
open Go.RowKit

theorem jelf_refl (x : ByteArray) : (x == x) = true := by
  rw [beq_toListBytes]
  simp
theorem any_take_succ {α : Type} (p : α → Bool) (l : List α) (i : Nat) (h : i < l.length) : (l.take (i + 1)).any p = ((l.take i).any p || p l[i]) := by
  rw [List.take_succ_eq_append_getElem h, List.any_append]
  simp
theorem wrap_sub64 {a b : Int} (h : b ≤ a) (h0 : 0 ≤ b) (h1 : a ≤ 18446744073709551615) : IntKind.u64.wrap (a - b) = a - b := by
  rw [IntKind.wrap_u64]; omega
set_option maxRecDepth 100000 in
set_option maxHeartbeats 16000000 in
theorem guards_yes (l : List Sg) (e : Int) (A : Option Addr) (nv cap : Nat) (inp : ByteArray) (w : World) (hS : Segs w (.slice A nv cap) l) (hI : ∀ s ∈ l, SgIn s) (e1 : e ≤ 18446744073709551615) (h0 : ldE l e = 0) :
    Calls Try.prog 4 #[.agg #[.int .u64 e, .slice A nv cap], .string inp] w fun r w' => r = .returned (.bool true) ∧ Below w.heap.size w w' := by
  have hm : mayB l e = true := by
    cases hm : mayB l e
    · unfold ldE at h0; rw [hm] at h0; cases h0
    · rfl
  have HG := Lib.hid (load_guards hm hI h0)
  have HL := Lib.hid (fun (W : World) (hb : Below w.heap.size w W) => eload_any l e A nv cap inp W (hS.next hb) hI)
  have HE := Lib.hid h0
  clear hS hI h0 hm
  go_enter Try.func4, Try.ntmps4
  go_wp2_with fail
  refine (eshown_any _).mono ?_
  rintro r w1 ⟨rfl, hb⟩
  have HB1 := Lib.hid (bthen (balloc (Below.refl _ w) _) hb)
  have HX := Lib.hid (show w1.heap[w.heap.size]? = some (.cells #[.int .u64 e, .slice A nv cap] 25 (0, 0)) from (hb.block w.heap.size (by simp)).trans (heap_alloc_new w _))
  have k0 : w1.cell? ⟨w.heap.size, 0, none⟩ = some (.int .u64 e) := by rw [Lib.cell_of_heap HX.out]; rfl
  have k1 : w1.cell? ⟨w.heap.size, 1, none⟩ = some (.slice A nv cap) := by rw [Lib.cell_of_heap HX.out]; rfl
  clear hb
  go_wp2_with fail
  refine (HL.out _ HB1.out).mono ?_
  rintro r w2 ⟨k, rfl, hb, -, hk⟩
  obtain ⟨mA, n, c, rfl, hP, -⟩ := hk HE.out
  rw [HE.out]
  obtain ⟨m, hmm⟩ : ∃ m, loadF [] l = m := ⟨_, rfl⟩
  rw [hmm] at HG hP
  have HN := Lib.hid hP.count
  have HZ := Lib.hid (Mach.new w2 zeroMc)
  obtain ⟨W, hW⟩ : ∃ W, W = (w2.alloc (.cells (mcells zeroMc) 30)).setRow w2.heap.size (mcells (machOf e inp mA n c)) := ⟨_, rfl⟩
  have HZ2 := Lib.hid (show Mach W w2.heap.size (machOf e inp mA n c) by rw [hW]; exact HZ.out.row _)
  have HP := Lib.hid (show Pages W (.slice mA n c) m by rw [hW]; exact hP.next (below_row (balloc (Below.refl _ w2) _) _ (Nat.le_refl _)))
  have HB2 := Lib.hid (show Below w.heap.size w W by rw [hW]; exact bthen (bthen HB1.out hb) (below_row (balloc (Below.refl _ w2) _) _ (Nat.le_refl _)))
  have HX2 := Lib.hid (show W.heap[w.heap.size]? = some (.cells #[.int .u64 e, .slice A nv cap] 25 (0, 0)) by
    rw [hW]
    exact ((bthen hb (below_row (balloc (Below.refl _ w2) _) _ (Nat.le_refl _))).block _ (Array.getElem?_eq_some_iff.1 HX.out).1).trans HX.out)
  have hlen : m.length ≤ 64 := HG.out.1.len
  have n64 : (n : Int) ≤ 64 := by have := HN.out; omega
  clear hb hk hP k0 k1 hmm hlen
  go_wp2_with (first | (refine alloc_mach rfl rfl ?_) | (refine store_mach rfl _ _ rfl _ (machOf e inp mA n c) rfl rfl _ HZ.out ?_))
  rw [← hW]
  clear hW HZ HB1 HL HX
  go_loopw [8, 9] (fun ev iv wr => ∃ i : Nat, i ≤ n ∧ iv = .int .i64 i ∧ ev = .bool ((m.take i).any (entB e)) ∧ Below W.heap.size W wr) (fun _ iv _ => n - (intOf iv).toNat)
  case atStart => exact ⟨0, Nat.zero_le _, rfl, rfl, Below.refl _ _⟩
  case round =>
    obtain ⟨i, hi, rfl, rfl, hbr⟩ := hrel
    have HBR := Lib.hid hbr
    clear hbr
    obtain ⟨-, cpc, cm, cin, cout, cst, -⟩ := (HZ2.out.next HBR.out).cells
    simp only [machOf, zeroMc] at cpc cm cin cout cst
    have HXR := Lib.hid ((HBR.out.block _ (Array.getElem?_eq_some_iff.1 HX2.out).1).trans HX2.out)
    have x0 : wr.cell? ⟨w.heap.size, 0, none⟩ = some (.int .u64 e) := by rw [Lib.cell_of_heap HXR.out]; rfl
    by_cases hlt : i < n
    · have hil : i < m.length := by have := HN.out; omega
      have HPR := Lib.hid (HP.out.next HBR.out)
      obtain ⟨b, off, hA, hbl, c0, c1, c2⟩ := HPR.out.at_ hil
      subst hA
      have hx := HG.out.2.1 m[i] (List.getElem_mem hil)
      have hge := HG.out.1.ge m[i] (List.getElem_mem hil)
      have hle := HG.out.1.le m[i] (List.getElem_mem hil)
      have hds := HG.out.1.size hil
      have HAN := Lib.hid (any_take_succ (entB e) m i hil)
      obtain ⟨⟨xa, xp, xd⟩, hxx⟩ : ∃ x, m[i] = x := ⟨_, rfl⟩
      have HUP := Lib.hid (show ∀ (j : Nat) (hj : j < m.length), j < i → m[j].a < xa from fun j hj hji => by
        have h := HG.out.1.at_lt hji hil
        rwa [hxx] at h)
      rw [hxx] at c0 c1 c2 hx hge hle hds HAN
      simp only at c0 c1 c2 hx hge hle hds
      obtain ⟨p1, p7, p3⟩ := hx
      have m1 : xp.tmod 4 = xp % 4 := Int.tmod_eq_emod_of_nonneg (by omega)
      have m2 : xp.tmod 2 = xp % 2 := Int.tmod_eq_emod_of_nonneg (by omega)
      have m3 : (xp % 4 == 3) = false := by simpa using p3
      have m4 : ((xd.size : Int) != 256) = false := by rw [hds]; rfl
      have HLT := Lib.hid hlt
      have i0 : (0 : Int) ≤ (i : Int) := by omega
      have i1 : (i : Int) < (n : Int) := by omega
      obtain ⟨ev, hev⟩ : ∃ ev, (m.take i).any (entB e) = ev := ⟨_, rfl⟩
      rw [hev] at HAN ⊢
      obtain ⟨en, hen⟩ : ∃ ev, (m.take (i + 1)).any (entB e) = ev := ⟨_, rfl⟩
      rw [hen] at HAN
      have HEN := Lib.hid hen
      clear hxx hlt hev hen hil p3
      obtain ⟨Y, hY⟩ : ∃ Y, Y = wr.alloc (.cells #[.int .u64 xa, .int .i64 xp, .string xd] 39) := ⟨_, rfl⟩
      have HYB := Lib.hid (show Below wr.heap.size wr Y by rw [hY]; exact balloc (Below.refl _ _) _)
      have hyb : Y.heap[wr.heap.size]? = some (.cells #[.int .u64 xa, .int .i64 xp, .string xd] 39 (0, 0)) := by rw [hY]; exact heap_alloc_new _ _
      have HYC := Lib.hid hyb
      have y0 : Y.cell? ⟨wr.heap.size, 0, none⟩ = some (.int .u64 xa) := by rw [Lib.cell_of_heap hyb]; rfl
      have y1 : Y.cell? ⟨wr.heap.size, 1, none⟩ = some (.int .i64 xp) := by rw [Lib.cell_of_heap hyb]; rfl
      have y2 : Y.cell? ⟨wr.heap.size, 2, none⟩ = some (.string xd) := by rw [Lib.cell_of_heap hyb]; rfl
      have ym : Y.cell? ⟨w2.heap.size, 33, none⟩ = some (.slice (some ⟨b, off, none⟩) n c) := by rw [(bcell HYB.out).1 _ _ ((HZ2.out.next HBR.out).lt)]; exact cm
      have yx : Y.cell? ⟨w.heap.size, 0, none⟩ = some (.int .u64 e) := by rw [(bcell HYB.out).1 _ _ (Array.getElem?_eq_some_iff.1 HXR.out).1]; exact x0
      clear hyb
      by_cases hi0 : i = 0
      · have g0 : ¬ 0 < i := by omega
        have g1 : decide (0 < i) = false := decide_eq_false g0
        clear hi0
        go_wp2_with fail
        rw [← hY]
        clear hY
        go_quiet (fail)
        have HBW := Lib.hid (bthen (bthen HBR.out HYB.out) (drewN_below Y nq))
        have z0 : (Y.drewN nq).cell? ⟨wr.heap.size, 0, none⟩ = some (.int .u64 xa) := y0
        have z1 : (Y.drewN nq).cell? ⟨wr.heap.size, 1, none⟩ = some (.int .i64 xp) := y1
        have zx : (Y.drewN nq).cell? ⟨w.heap.size, 0, none⟩ = some (.int .u64 e) := yx
        clear y0 y1 y2 ym yx
        generalize Y.drewN nq = wz at *
        cases ev with
        | true =>
          have hen : en = true := by rw [HAN.out]; rfl
          go_wp2_with fail
          go_roundw
          case rel => exact ⟨i + 1, HLT.out, by go_num, by rw [HEN.out, hen], HBW.out⟩
          case measure => have := HLT.out; simp [intOf]; omega
        | false =>
          by_cases t1 : xp % 2 = 1
          · have r1 : (xp % 2 == 1) = true := by simpa using t1
            by_cases t2 : xa ≤ e
            · have r2 : decide (xa ≤ e) = true := decide_eq_true t2
              have r4 : IntKind.u64.wrap (e - xa) = e - xa := wrap_sub64 t2 hge e1
              by_cases t3 : e - xa < 256
              · have r3 : decide (e - xa < 256) = true := decide_eq_true t3
                have hen : en = true := by rw [HAN.out]; unfold entB; simp [t1, t2, t3]
                clear HAN t1 t2 t3
                go_wp2_with fail
                go_roundw
                case rel => exact ⟨i + 1, HLT.out, by go_num, by rw [HEN.out, hen], HBW.out⟩
                case measure => have := HLT.out; simp [intOf]; omega
              · have r3 : decide (e - xa < 256) = false := decide_eq_false t3
                have hen : en = false := by rw [HAN.out]; unfold entB; simp [t3]
                clear HAN t1 t2 t3
                go_wp2_with fail
                go_roundw
                case rel => exact ⟨i + 1, HLT.out, by go_num, by rw [HEN.out, hen], HBW.out⟩
                case measure => have := HLT.out; simp [intOf]; omega
            · have r2 : decide (xa ≤ e) = false := decide_eq_false t2
              have hen : en = false := by rw [HAN.out]; unfold entB; simp [t2]
              clear HAN t1 t2
              go_wp2_with fail
              go_roundw
              case rel => exact ⟨i + 1, HLT.out, by go_num, by rw [HEN.out, hen], HBW.out⟩
              case measure => have := HLT.out; simp [intOf]; omega
          · have r1 : (xp % 2 == 1) = false := by simpa using t1
            have hen : en = false := by rw [HAN.out]; unfold entB; simp [t1]
            clear HAN t1
            go_wp2_with fail
            go_roundw
            case rel => exact ⟨i + 1, HLT.out, by go_num, by rw [HEN.out, hen], HBW.out⟩
            case measure => have := HLT.out; simp [intOf]; omega
      · obtain ⟨j, hj⟩ : ∃ j, i = j + 1 := ⟨i - 1, by omega⟩
        have wj : IntKind.i64.wrap ((i : Int) - 1) = (j : Int) := by rw [IntKind.wrap_i64]; omega
        have g0 : 0 < i := by omega
        have g1 : decide (0 < i) = true := decide_eq_true g0
        have j0 : (0 : Int) ≤ (j : Int) := by omega
        have j1 : (j : Int) < (n : Int) := by omega
        have hjl : j < m.length := by have := HN.out; omega
        obtain ⟨b', off', hA', -, d0, -, -⟩ := (HP.out.next (bthen HBR.out HYB.out)).at_ hjl
        cases hA'
        have hlt2 := HUP.out j hjl (by omega)
        obtain ⟨ya, hya⟩ : ∃ y, m[j].a = y := ⟨_, rfl⟩
        rw [hya] at d0 hlt2
        have g2 : decide (xa ≤ ya) = false := decide_eq_false (by omega)
        clear hya hjl hlt2 hj hi0
        go_wp2_with fail
        rw [← hY]
        clear hY
        go_quiet (fail)
        have HBW := Lib.hid (bthen (bthen HBR.out HYB.out) (drewN_below Y nq))
        have z0 : (Y.drewN nq).cell? ⟨wr.heap.size, 0, none⟩ = some (.int .u64 xa) := y0
        have z1 : (Y.drewN nq).cell? ⟨wr.heap.size, 1, none⟩ = some (.int .i64 xp) := y1
        have zx : (Y.drewN nq).cell? ⟨w.heap.size, 0, none⟩ = some (.int .u64 e) := yx
        clear y0 y1 y2 ym yx
        generalize Y.drewN nq = wz at *
        cases ev with
        | true =>
          have hen : en = true := by rw [HAN.out]; rfl
          go_wp2_with fail
          go_roundw
          case rel => exact ⟨i + 1, HLT.out, by go_num, by rw [HEN.out, hen], HBW.out⟩
          case measure => have := HLT.out; simp [intOf]; omega
        | false =>
          by_cases t1 : xp % 2 = 1
          · have r1 : (xp % 2 == 1) = true := by simpa using t1
            by_cases t2 : xa ≤ e
            · have r2 : decide (xa ≤ e) = true := decide_eq_true t2
              have r4 : IntKind.u64.wrap (e - xa) = e - xa := wrap_sub64 t2 hge e1
              by_cases t3 : e - xa < 256
              · have r3 : decide (e - xa < 256) = true := decide_eq_true t3
                have hen : en = true := by rw [HAN.out]; unfold entB; simp [t1, t2, t3]
                clear HAN t1 t2 t3
                go_wp2_with fail
                go_roundw
                case rel => exact ⟨i + 1, HLT.out, by go_num, by rw [HEN.out, hen], HBW.out⟩
                case measure => have := HLT.out; simp [intOf]; omega
              · have r3 : decide (e - xa < 256) = false := decide_eq_false t3
                have hen : en = false := by rw [HAN.out]; unfold entB; simp [t3]
                clear HAN t1 t2 t3
                go_wp2_with fail
                go_roundw
                case rel => exact ⟨i + 1, HLT.out, by go_num, by rw [HEN.out, hen], HBW.out⟩
                case measure => have := HLT.out; simp [intOf]; omega
            · have r2 : decide (xa ≤ e) = false := decide_eq_false t2
              have hen : en = false := by rw [HAN.out]; unfold entB; simp [t2]
              clear HAN t1 t2
              go_wp2_with fail
              go_roundw
              case rel => exact ⟨i + 1, HLT.out, by go_num, by rw [HEN.out, hen], HBW.out⟩
              case measure => have := HLT.out; simp [intOf]; omega
          · have r1 : (xp % 2 == 1) = false := by simpa using t1
            have hen : en = false := by rw [HAN.out]; unfold entB; simp [t1]
            clear HAN t1
            go_wp2_with fail
            go_roundw
            case rel => exact ⟨i + 1, HLT.out, by go_num, by rw [HEN.out, hen], HBW.out⟩
            case measure => have := HLT.out; simp [intOf]; omega
    · have i1 : ¬ (i : Int) < (n : Int) := by omega
      have hT : m.take i = m := List.take_of_length_le (by have := HN.out; omega)
      rw [hT, HG.out.2.2]
      have q0 : (e == e) = true := by simp
      have q1 : (inp == inp) = true := jelf_refl inp
      have q2 : (inp.toList == inp.toList) = true := by simp
      have HB9 := Lib.hid (bthen HB2.out HBR.out)
      clear hT hlt
      go_wp2_with fail
      go_ret
      exact ⟨rfl, HB9.out⟩
theorem guards_all (l : List Sg) (e : Int) (A : Option Addr) (nv cap : Nat) (inp : ByteArray) (w : World) (hS : Segs w (.slice A nv cap) l) (hI : ∀ s ∈ l, SgIn s) (e1 : e ≤ 18446744073709551615) :
    Calls Try.prog 4 #[.agg #[.int .u64 e, .slice A nv cap], .string inp] w fun r w' => r = .returned (.bool true) ∧ Below w.heap.size w w' := by
  by_cases h0 : ldE l e = 0
  · exact guards_yes l e A nv cap inp w hS hI e1 h0
  · exact guards_no l e A nv cap inp w hS hI h0
end Go.Proofs.Ytdlbhkdjcegbfaa
