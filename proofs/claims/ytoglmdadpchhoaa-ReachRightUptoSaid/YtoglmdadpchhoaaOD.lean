/- Package slices: IndexFunc and DeleteFunc of names, functions, globals, with whatever predicate. -/
import Derived.Test.YtoglmdadpchhoaaOI
namespace Go.Proofs.Ytoglmdadpchhoaa
open Go.RowKit

set_option maxRecDepth 100000 in
set_option maxHeartbeats 8000000 in
theorem deleteSt_any (p : ByteArray → Bool) (g : FuncId) (bd caps : Array Value) (l : List ByteArray) (base hi : Nat) (A : Option Addr) (n c : Nat) (w : World) (hn : l.length = n) (h9 : n ≤ 9223372036854775807) (hS : OwnAt 1 9 StC base hi l (.slice A n c) w)
    (hcf : ∀ args U, (callFunc g args).run Try.prog U = .ok (.enter g args) U)
    (hC : ∀ x ∈ l, ∀ (cs : List Value) (U : World), StC U cs x → Out base hi w U → Calls Try.prog g (bd ++ #[.string x] ++ caps) U fun e w' => e = .returned (.bool (p x)) ∧ Below U.heap.size U w') :
    Calls Try.prog 54 #[.slice A n c, .func (.func g) bd caps] w fun e w' => ∃ A' c', e = .returned (.slice A' (l.filter fun x => !p x).length c') ∧ Out base hi w w' ∧ OwnAt 1 9 StC base hi (l.filter fun x => !p x) (.slice A' (l.filter fun x => !p x).length c') w' := by
  have HI := Lib.hid (indexSt_any p g bd caps l base hi A n c w hn h9 hS hcf hC)
  have HNQ := Lib.hid hn
  have HS := Lib.hid hS
  have HC := Lib.hid hC
  have HCF := Lib.hid hcf
  have HBS := Lib.hid (show base ≤ w.heap.size by have := hS.size; omega)
  have n1 : (n : Int) ≤ 9223372036854775807 := by omega
  rcases idxP_cases p l with ⟨e1, e2⟩ | ⟨i, hi', e1, e2, e3⟩
  · rw [e1] at HI
    have HF := Lib.hid e2
    clear hS hC hcf hn h9 e1 e2 HC HCF
    go_enter Try.func54, Try.ntmps54
    go_wp2_with fail
    refine HI.out.mono ?_
    rintro r w1 ⟨rfl, hb1⟩
    have HB1 := Lib.hid hb1
    clear hb1
    go_wp2_with fail
    go_ret
    rw [HF.out, HNQ.out]
    exact ⟨A, c, rfl, Out.of_below HB1.out HBS.out, HS.out.call HB1.out⟩
  · rw [e1] at HI
    obtain ⟨gg, rfl⟩ : ∃ gg, A = some ⟨gg, 0, none⟩ := by
      obtain ⟨ys, s, h1, -⟩ := hS
      rcases h1.2 with ⟨e, e4⟩ | ⟨g', cap', cur, e, -⟩
      · omega
      · exact ⟨g', (Value.slice.inj e).1⟩
    have HST := Lib.hid (fun (u : World) (hb : Below w.heap.size w u) => del_start (p := p) hS hb hi' e2 e3 hn)
    have hi9 : i < n := by omega
    have HKP := Lib.hid (show (keptE p l (i + 1)).length = i by
      rw [keptE_skip hi' e2]
      unfold keptE
      rw [e3, List.length_take]
      omega)
    have hne1 : ((i : Int) == -1) = false := beq_eq_false_iff_ne.2 (by omega)
    have i9 : (i : Int) < 9223372036854775807 := by omega
    clear hS hC hcf hn h9 e1 e2 e3 hi' HS
    go_enter Try.func54, Try.ntmps54
    go_wp2_with fail
    refine HI.out.mono ?_
    rintro r w1 ⟨rfl, hb1⟩
    have HD := Lib.hid (HST.out w1 hb1)
    have HI9 := Lib.hid hi9
    clear hb1 HST HI
    go_wp2_with fail
    go_loopg [5, 6, 7] n (fun q s5 s6 _ wr => ∃ (k j : Nat), s5 = .int .i64 k ∧ s6 = .int .i64 j ∧ j ≤ n ∧ n - j ≤ q ∧ (keptE p l j).length = k ∧ DelIn 1 9 StC base hi p l gg n c j w wr)
    case atStart => exact ⟨i, i + 1, rfl, by go_num, HI9.out, by omega, HKP.out, HD.out⟩
    case round =>
      obtain ⟨k, j, rfl, rfl, hjn, hgg, hk, hd⟩ := hrel
      have HDL := Lib.hid hd
      have HK := Lib.hid hk
      have HKJ := Lib.hid (show k < j by have := hd.choose_spec.choose_spec.2.2.2.2.2.2.2.2.2; omega)
      have HGQ := Lib.hid hgg
      clear hk hgg HD HKP
      by_cases hlt : j < n
      · have hm : j < l.length := by have := HNQ.out; omega
        rcases Bool.eq_false_or_eq_true (p l[j]) with hQ | hQ
        · obtain ⟨cs, hcl, hv, hrg⟩ := del_get hd HNQ.out hm
          have HRG := Lib.hid hrg
          have HSK := Lib.hid (show ∀ u, Below wr.heap.size wr u → DelIn 1 9 StC base hi p l gg n c (j + 1) w u from fun u hu => del_skip (hd.call hu) hm hQ)
          have HLN := Lib.hid (show (keptE p l (j + 1)).length = k by rw [keptE_skip hm hQ, HK.out])
          have HOU := Lib.hid (show Out base hi w wr from hd.choose_spec.choose_spec.2.2.2.2.2.2.1)
          have HCI := HC.out l[j] (List.getElem_mem hm) cs wr ?hvn HOU.out
          case hvn => exact hv
          rw [hQ] at HCI
          clear hQ
          obtain ⟨x, hx⟩ : ∃ x, l[j] = x := ⟨_, rfl⟩
          rw [hx] at hv
          try rw [hx] at HCI
          clear hx hd hrg
          obtain rfl : cs = [.string x] := hv
          have e0 : wr.cell? ⟨gg, j, none⟩ = some (.string x) := by have h := HRG.out 0 _ rfl; simpa using h
          have HCJ := Lib.hid HCI
          have hk0 : (0 : Int) ≤ (j : Int) := Int.natCast_nonneg _
          have hk1 : (j : Int) < (n : Int) := by omega
          have hk2 : (0 : Int) ≤ (k : Int) := Int.natCast_nonneg _
          have hk3 : (k : Int) < (n : Int) := by have := HKJ.out; omega
          have HLT := Lib.hid hlt
          clear hm hlt HCI hcl
          go_wp2_with fail
          rw [HCF.out]
          refine Calls.mono HCJ.out ?_
          rintro r u ⟨rfl, hb2⟩
          have HBU := Lib.hid hb2
          clear hb2 e0
          have HDN := Lib.hid (HSK.out u HBU.out)
          go_wp2_with fail
          go_roundg (n - (j + 1))
          case rel => exact ⟨k, j + 1, rfl, by go_num, HLT.out, Nat.le_refl _, HLN.out, HDN.out⟩
          case measure => have := HLT.out; have := HGQ.out; omega
        · obtain ⟨cs, hcl, hv, hrg⟩ := del_get hd HNQ.out hm
          have HRG := Lib.hid hrg
          have HKE := Lib.hid (show ∀ u, Below wr.heap.size wr u → u.there gg (k * 1) 1 ∧ DelIn 1 9 StC base hi p l gg n c (j + 1) w (u.setCells gg (k * 1) cs) from fun u hu => by
            have h2 := del_keep (hd.call hu) HNQ.out hm hQ hcl (fun q v hq => by
              rw [cellNext (World.block_lt_of_cell? wr _ (hrg q v hq)) hu]
              exact hrg q v hq)
            rw [HK.out] at h2
            exact h2)
          have HLN := Lib.hid (show (keptE p l (j + 1)).length = k + 1 by rw [keptE_keep hm hQ, List.length_append, HK.out]; rfl)
          have HOU := Lib.hid (show Out base hi w wr from hd.choose_spec.choose_spec.2.2.2.2.2.2.1)
          have HCI := HC.out l[j] (List.getElem_mem hm) cs wr ?hvn HOU.out
          case hvn => exact hv
          rw [hQ] at HCI
          clear hQ
          obtain ⟨x, hx⟩ : ∃ x, l[j] = x := ⟨_, rfl⟩
          rw [hx] at hv
          try rw [hx] at HCI
          clear hx hd hrg
          obtain rfl : cs = [.string x] := hv
          have e0 : wr.cell? ⟨gg, j, none⟩ = some (.string x) := by have h := HRG.out 0 _ rfl; simpa using h
          have HCJ := Lib.hid HCI
          have hk0 : (0 : Int) ≤ (j : Int) := Int.natCast_nonneg _
          have hk1 : (j : Int) < (n : Int) := by omega
          have hk2 : (0 : Int) ≤ (k : Int) := Int.natCast_nonneg _
          have hk3 : (k : Int) < (n : Int) := by have := HKJ.out; omega
          have HLT := Lib.hid hlt
          clear hm hlt HCI hcl
          go_wp2_with fail
          rw [HCF.out]
          refine Calls.mono HCJ.out ?_
          rintro r u ⟨rfl, hb2⟩
          have HBU := Lib.hid hb2
          clear hb2 e0
          obtain ⟨hth, hdn⟩ := HKE.out u HBU.out
          have hz : ∃ z, u.cell? ⟨gg, k, none⟩ = some z := Option.isSome_iff_exists.1 (by have h := (hth 0 (by omega)).1; simpa using h)
          have hf : u.frozen? ⟨gg, k, none⟩ = false := by have h := (hth 0 (by omega)).2; simpa using h
          obtain ⟨z, hz⟩ := hz
          have HDN := Lib.hid (show DelIn 1 9 StC base hi p l gg n c (j + 1) w (u.setCell ⟨gg, k, none⟩ (.string x)) by have h := hdn; rw [Nat.mul_one] at h; exact h)
          clear hth hdn
          go_wp2_with fail
          go_roundg (n - (j + 1))
          case rel => exact ⟨k + 1, j + 1, by go_num, by go_num, HLT.out, Nat.le_refl _, HLN.out, HDN.out⟩
          case measure => have := HLT.out; have := HGQ.out; omega
      · have hjj : j = n := by omega
        subst hjj
        have hd0 : ¬ ((j : Int) < (j : Int)) := by omega
        have HCLR := Lib.hid (fun ty => run_clear_cells (P := Try.prog) wr 45 9 ty (Value.string ⟨#[]⟩) Try.underlying45 (Try.zeroValue9) gg (k * 1) (j - k) (c - k) (by have := HKJ.out; omega) (by simp [Value.cells, Value.oneCell']) (by simp [Value.cells]) (del_there hd HNQ.out HK.out HKJ.out (by simp [Value.cells]; have := HKJ.out; omega)))
        have HFN := Lib.hid (del_done hd HNQ.out (Nat.le_refl _) (Builtin.zeroCells (Value.string ⟨#[]⟩).cells (j - k)).toList)
        rw [HK.out] at HFN
        have hcl := HCLR.out
        have hkc : k ≤ c := by have h1 := del_cap hd; have h2 := HKJ.out; omega
        have hck : ¬ (c = k) := by have h1 := del_cap hd; have h2 := HKJ.out; omega
        have hk2 : (0 : Int) ≤ (k : Int) := Int.natCast_nonneg _
        have hk3 : (k : Int) < (j : Int) := by have := HKJ.out; omega
        clear hd hlt
        generalize hZ : (Builtin.zeroCells (Value.string ⟨#[]⟩).cells (j - k)).toList = zs at hcl HFN
        clear hZ HCLR
        rw [Nat.mul_one] at hcl HFN
        go_wp2_with fail
        go_ret
        obtain ⟨f1, f2, f3⟩ := HFN.out
        have f4 : (l.filter fun x => !p x).length = k := by rw [← f3]; exact HK.out
        exact ⟨some ⟨gg, 0, none⟩, c, by rw [f4]; rfl, f2, by rw [f4]; exact f1⟩
set_option maxRecDepth 100000 in
set_option maxHeartbeats 8000000 in
theorem deleteFn_any (p : Fn → Bool) (g : FuncId) (bd caps : Array Value) (l : List Fn) (base hi : Nat) (A : Option Addr) (n c : Nat) (w : World) (hn : l.length = n) (h9 : n ≤ 9223372036854775807) (hS : OwnAt 4 50 FnC base hi l (.slice A n c) w)
    (hcf : ∀ args U, (callFunc g args).run Try.prog U = .ok (.enter g args) U)
    (hC : ∀ x ∈ l, ∀ (cs : List Value) (U : World), FnC U cs x → Out base hi w U → Calls Try.prog g (bd ++ #[.agg cs.toArray] ++ caps) U fun e w' => e = .returned (.bool (p x)) ∧ Below U.heap.size U w') :
    Calls Try.prog 40 #[.slice A n c, .func (.func g) bd caps] w fun e w' => ∃ A' c', e = .returned (.slice A' (l.filter fun x => !p x).length c') ∧ Out base hi w w' ∧ OwnAt 4 50 FnC base hi (l.filter fun x => !p x) (.slice A' (l.filter fun x => !p x).length c') w' := by
  have HI := Lib.hid (indexFn_any p g bd caps l base hi A n c w hn h9 hS hcf hC)
  have HNQ := Lib.hid hn
  have HS := Lib.hid hS
  have HC := Lib.hid hC
  have HCF := Lib.hid hcf
  have HBS := Lib.hid (show base ≤ w.heap.size by have := hS.size; omega)
  have n1 : (n : Int) ≤ 9223372036854775807 := by omega
  rcases idxP_cases p l with ⟨e1, e2⟩ | ⟨i, hi', e1, e2, e3⟩
  · rw [e1] at HI
    have HF := Lib.hid e2
    clear hS hC hcf hn h9 e1 e2 HC HCF
    go_enter Try.func40, Try.ntmps40
    go_wp2_with fail
    refine HI.out.mono ?_
    rintro r w1 ⟨rfl, hb1⟩
    have HB1 := Lib.hid hb1
    clear hb1
    go_wp2_with fail
    go_ret
    rw [HF.out, HNQ.out]
    exact ⟨A, c, rfl, Out.of_below HB1.out HBS.out, HS.out.call HB1.out⟩
  · rw [e1] at HI
    obtain ⟨gg, rfl⟩ : ∃ gg, A = some ⟨gg, 0, none⟩ := by
      obtain ⟨ys, s, h1, -⟩ := hS
      rcases h1.2 with ⟨e, e4⟩ | ⟨g', cap', cur, e, -⟩
      · omega
      · exact ⟨g', (Value.slice.inj e).1⟩
    have HST := Lib.hid (fun (u : World) (hb : Below w.heap.size w u) => del_start (p := p) hS hb hi' e2 e3 hn)
    have hi9 : i < n := by omega
    have HKP := Lib.hid (show (keptE p l (i + 1)).length = i by
      rw [keptE_skip hi' e2]
      unfold keptE
      rw [e3, List.length_take]
      omega)
    have hne1 : ((i : Int) == -1) = false := beq_eq_false_iff_ne.2 (by omega)
    have i9 : (i : Int) < 9223372036854775807 := by omega
    clear hS hC hcf hn h9 e1 e2 e3 hi' HS
    go_enter Try.func40, Try.ntmps40
    go_wp2_with fail
    refine HI.out.mono ?_
    rintro r w1 ⟨rfl, hb1⟩
    have HD := Lib.hid (HST.out w1 hb1)
    have HI9 := Lib.hid hi9
    clear hb1 HST HI
    go_wp2_with fail
    go_loopg [5, 6, 7] n (fun q s5 s6 _ wr => ∃ (k j : Nat), s5 = .int .i64 k ∧ s6 = .int .i64 j ∧ j ≤ n ∧ n - j ≤ q ∧ (keptE p l j).length = k ∧ DelIn 4 50 FnC base hi p l gg n c j w wr)
    case atStart => exact ⟨i, i + 1, rfl, by go_num, HI9.out, by omega, HKP.out, HD.out⟩
    case round =>
      obtain ⟨k, j, rfl, rfl, hjn, hgg, hk, hd⟩ := hrel
      have HDL := Lib.hid hd
      have HK := Lib.hid hk
      have HKJ := Lib.hid (show k < j by have := hd.choose_spec.choose_spec.2.2.2.2.2.2.2.2.2; omega)
      have HGQ := Lib.hid hgg
      clear hk hgg HD HKP
      by_cases hlt : j < n
      · have hm : j < l.length := by have := HNQ.out; omega
        rcases Bool.eq_false_or_eq_true (p l[j]) with hQ | hQ
        · obtain ⟨cs, hcl, hv, hrg⟩ := del_get hd HNQ.out hm
          have HRG := Lib.hid hrg
          have HSK := Lib.hid (show ∀ u, Below wr.heap.size wr u → DelIn 4 50 FnC base hi p l gg n c (j + 1) w u from fun u hu => del_skip (hd.call hu) hm hQ)
          have HLN := Lib.hid (show (keptE p l (j + 1)).length = k by rw [keptE_skip hm hQ, HK.out])
          have HOU := Lib.hid (show Out base hi w wr from hd.choose_spec.choose_spec.2.2.2.2.2.2.1)
          have HCI := HC.out l[j] (List.getElem_mem hm) cs (wr.alloc (.cells cs.toArray 50)) ?hvn (HOU.out.call (balloc (Below.refl _ wr) _) HBS.out)
          case hvn => exact hv.next (balloc (Below.refl _ wr) _)
          rw [hQ] at HCI
          clear hQ
          obtain ⟨x, hx⟩ : ∃ x, l[j] = x := ⟨_, rfl⟩
          rw [hx] at hv
          try rw [hx] at HCI
          clear hx hd hrg
          obtain ⟨A1, c1, rfl, hbl⟩ := hv
          obtain ⟨xs, xb, xp, xl⟩ := x
          dsimp only at *
          obtain ⟨xn, hxn⟩ : ∃ n, xl.length = n := ⟨_, rfl⟩
          rw [hxn] at HCI HRG
          try rw [hxn] at HKE
          have e0 : wr.cell? ⟨gg, j * 4, none⟩ = some (.string xs) := HRG.out 0 _ rfl
          have e1 : wr.cell? ⟨gg, j * 4 + 1, none⟩ = some (.int .i64 xb) := HRG.out 1 _ rfl
          have e2 : wr.cell? ⟨gg, j * 4 + 2, none⟩ = some (.int .i64 xp) := HRG.out 2 _ rfl
          have e3 : wr.cell? ⟨gg, j * 4 + 3, none⟩ = some (.slice A1 xn c1) := HRG.out 3 _ rfl
          have HCJ := Lib.hid HCI
          have hk0 : (0 : Int) ≤ (j : Int) := Int.natCast_nonneg _
          have hk1 : (j : Int) < (n : Int) := by omega
          have hk2 : (0 : Int) ≤ (k : Int) := Int.natCast_nonneg _
          have hk3 : (k : Int) < (n : Int) := by have := HKJ.out; omega
          have HLT := Lib.hid hlt
          clear hm hlt HCI hcl hbl hxn
          go_wp2_with fail
          rw [HCF.out]
          refine Calls.mono HCJ.out ?_
          rintro r u ⟨rfl, hb2⟩
          have HBU := Lib.hid (bthen (balloc (Below.refl _ wr) (.cells #[.string xs, .int .i64 xb, .int .i64 xp, .slice A1 xn c1] 50)) hb2)
          have HW := Lib.hid (Whole.next (show Whole (wr.alloc (.cells #[.string xs, .int .i64 xb, .int .i64 xp, .slice A1 xn c1] 50)) wr.heap.size 50 #[.string xs, .int .i64 xb, .int .i64 xp, .slice A1 xn c1] from heap_alloc_new wr _) hb2)
          have b0 : u.cell? ⟨wr.heap.size, 0, none⟩ = some (.string xs) := HW.out.cell 0
          have b1 : u.cell? ⟨wr.heap.size, 1, none⟩ = some (.int .i64 xb) := HW.out.cell 1
          have b2 : u.cell? ⟨wr.heap.size, 2, none⟩ = some (.int .i64 xp) := HW.out.cell 2
          have b3 : u.cell? ⟨wr.heap.size, 3, none⟩ = some (.slice A1 xn c1) := HW.out.cell 3
          clear hb2 e0 e1 e2 e3
          have HDN := Lib.hid (HSK.out u HBU.out)
          go_wp2_with fail
          go_roundg (n - (j + 1))
          case rel => exact ⟨k, j + 1, rfl, by go_num, HLT.out, Nat.le_refl _, HLN.out, HDN.out⟩
          case measure => have := HLT.out; have := HGQ.out; omega
        · obtain ⟨cs, hcl, hv, hrg⟩ := del_get hd HNQ.out hm
          have HRG := Lib.hid hrg
          have HKE := Lib.hid (show ∀ u, Below wr.heap.size wr u → u.there gg (k * 4) 4 ∧ DelIn 4 50 FnC base hi p l gg n c (j + 1) w (u.setCells gg (k * 4) cs) from fun u hu => by
            have h2 := del_keep (hd.call hu) HNQ.out hm hQ hcl (fun q v hq => by
              rw [cellNext (World.block_lt_of_cell? wr _ (hrg q v hq)) hu]
              exact hrg q v hq)
            rw [HK.out] at h2
            exact h2)
          have HLN := Lib.hid (show (keptE p l (j + 1)).length = k + 1 by rw [keptE_keep hm hQ, List.length_append, HK.out]; rfl)
          have HOU := Lib.hid (show Out base hi w wr from hd.choose_spec.choose_spec.2.2.2.2.2.2.1)
          have HCI := HC.out l[j] (List.getElem_mem hm) cs (wr.alloc (.cells cs.toArray 50)) ?hvn (HOU.out.call (balloc (Below.refl _ wr) _) HBS.out)
          case hvn => exact hv.next (balloc (Below.refl _ wr) _)
          rw [hQ] at HCI
          clear hQ
          obtain ⟨x, hx⟩ : ∃ x, l[j] = x := ⟨_, rfl⟩
          rw [hx] at hv
          try rw [hx] at HCI
          clear hx hd hrg
          obtain ⟨A1, c1, rfl, hbl⟩ := hv
          obtain ⟨xs, xb, xp, xl⟩ := x
          dsimp only at *
          obtain ⟨xn, hxn⟩ : ∃ n, xl.length = n := ⟨_, rfl⟩
          rw [hxn] at HCI HRG
          try rw [hxn] at HKE
          have e0 : wr.cell? ⟨gg, j * 4, none⟩ = some (.string xs) := HRG.out 0 _ rfl
          have e1 : wr.cell? ⟨gg, j * 4 + 1, none⟩ = some (.int .i64 xb) := HRG.out 1 _ rfl
          have e2 : wr.cell? ⟨gg, j * 4 + 2, none⟩ = some (.int .i64 xp) := HRG.out 2 _ rfl
          have e3 : wr.cell? ⟨gg, j * 4 + 3, none⟩ = some (.slice A1 xn c1) := HRG.out 3 _ rfl
          have HCJ := Lib.hid HCI
          have hk0 : (0 : Int) ≤ (j : Int) := Int.natCast_nonneg _
          have hk1 : (j : Int) < (n : Int) := by omega
          have hk2 : (0 : Int) ≤ (k : Int) := Int.natCast_nonneg _
          have hk3 : (k : Int) < (n : Int) := by have := HKJ.out; omega
          have HLT := Lib.hid hlt
          clear hm hlt HCI hcl hbl hxn
          go_wp2_with fail
          rw [HCF.out]
          refine Calls.mono HCJ.out ?_
          rintro r u ⟨rfl, hb2⟩
          have HBU := Lib.hid (bthen (balloc (Below.refl _ wr) (.cells #[.string xs, .int .i64 xb, .int .i64 xp, .slice A1 xn c1] 50)) hb2)
          have HW := Lib.hid (Whole.next (show Whole (wr.alloc (.cells #[.string xs, .int .i64 xb, .int .i64 xp, .slice A1 xn c1] 50)) wr.heap.size 50 #[.string xs, .int .i64 xb, .int .i64 xp, .slice A1 xn c1] from heap_alloc_new wr _) hb2)
          have b0 : u.cell? ⟨wr.heap.size, 0, none⟩ = some (.string xs) := HW.out.cell 0
          have b1 : u.cell? ⟨wr.heap.size, 1, none⟩ = some (.int .i64 xb) := HW.out.cell 1
          have b2 : u.cell? ⟨wr.heap.size, 2, none⟩ = some (.int .i64 xp) := HW.out.cell 2
          have b3 : u.cell? ⟨wr.heap.size, 3, none⟩ = some (.slice A1 xn c1) := HW.out.cell 3
          clear hb2 e0 e1 e2 e3
          obtain ⟨hth, hdn⟩ := HKE.out u HBU.out
          have HTH := Lib.hid hth
          have HDN := Lib.hid hdn
          clear hth hdn
          go_wp2_with (refine wpList_store_mid rfl 50 _ _ rfl gg (k * 4) #[.string xs, .int .i64 xb, .int .i64 xp, .slice A1 xn c1] rfl rfl ?hth ?hsz ?hone ?_)
          case hth => exact HTH.out
          case hsz => exact size_Fn
          case hone => simp [Value.oneCell']
          go_roundg (n - (j + 1))
          case rel => exact ⟨k + 1, j + 1, by go_num, by go_num, HLT.out, Nat.le_refl _, HLN.out, HDN.out⟩
          case measure => have := HLT.out; have := HGQ.out; omega
      · have hjj : j = n := by omega
        subst hjj
        have hd0 : ¬ ((j : Int) < (j : Int)) := by omega
        have HCLR := Lib.hid (fun ty => run_clear_cells (P := Try.prog) wr 22 50 ty (Value.agg #[.string ⟨#[]⟩, .int .i64 0, .int .i64 0, .slice none 0 0]) Try.underlying22 (Try.zeroValue50) gg (k * 4) (j - k) (c - k) (by have := HKJ.out; omega) (by simp [Value.cells, Value.oneCell']) (by simp [Value.cells]) (del_there hd HNQ.out HK.out HKJ.out (by simp [Value.cells]; have := HKJ.out; omega)))
        have HFN := Lib.hid (del_done hd HNQ.out (Nat.le_refl _) (Builtin.zeroCells (Value.agg #[.string ⟨#[]⟩, .int .i64 0, .int .i64 0, .slice none 0 0]).cells (j - k)).toList)
        rw [HK.out] at HFN
        have hcl := HCLR.out
        have hkc : k ≤ c := by have h1 := del_cap hd; have h2 := HKJ.out; omega
        have hck : ¬ (c = k) := by have h1 := del_cap hd; have h2 := HKJ.out; omega
        have hk2 : (0 : Int) ≤ (k : Int) := Int.natCast_nonneg _
        have hk3 : (k : Int) < (j : Int) := by have := HKJ.out; omega
        clear hd hlt
        generalize hZ : (Builtin.zeroCells (Value.agg #[.string ⟨#[]⟩, .int .i64 0, .int .i64 0, .slice none 0 0]).cells (j - k)).toList = zs at hcl HFN
        clear hZ HCLR
        go_wp2_with fail
        go_ret
        obtain ⟨f1, f2, f3⟩ := HFN.out
        have f4 : (l.filter fun x => !p x).length = k := by rw [← f3]; exact HK.out
        exact ⟨some ⟨gg, 0, none⟩, c, by rw [f4]; rfl, f2, by rw [f4]; exact f1⟩
set_option maxRecDepth 100000 in
set_option maxHeartbeats 8000000 in
theorem deleteGl_any (p : Gl → Bool) (g : FuncId) (bd caps : Array Value) (l : List Gl) (base hi : Nat) (A : Option Addr) (n c : Nat) (w : World) (hn : l.length = n) (h9 : n ≤ 9223372036854775807) (hS : OwnAt 4 54 GlC base hi l (.slice A n c) w)
    (hcf : ∀ args U, (callFunc g args).run Try.prog U = .ok (.enter g args) U)
    (hC : ∀ x ∈ l, ∀ (cs : List Value) (U : World), GlC U cs x → Out base hi w U → Calls Try.prog g (bd ++ #[.agg cs.toArray] ++ caps) U fun e w' => e = .returned (.bool (p x)) ∧ Below U.heap.size U w') :
    Calls Try.prog 43 #[.slice A n c, .func (.func g) bd caps] w fun e w' => ∃ A' c', e = .returned (.slice A' (l.filter fun x => !p x).length c') ∧ Out base hi w w' ∧ OwnAt 4 54 GlC base hi (l.filter fun x => !p x) (.slice A' (l.filter fun x => !p x).length c') w' := by
  have HI := Lib.hid (indexGl_any p g bd caps l base hi A n c w hn h9 hS hcf hC)
  have HNQ := Lib.hid hn
  have HS := Lib.hid hS
  have HC := Lib.hid hC
  have HCF := Lib.hid hcf
  have HBS := Lib.hid (show base ≤ w.heap.size by have := hS.size; omega)
  have n1 : (n : Int) ≤ 9223372036854775807 := by omega
  rcases idxP_cases p l with ⟨e1, e2⟩ | ⟨i, hi', e1, e2, e3⟩
  · rw [e1] at HI
    have HF := Lib.hid e2
    clear hS hC hcf hn h9 e1 e2 HC HCF
    go_enter Try.func43, Try.ntmps43
    go_wp2_with fail
    refine HI.out.mono ?_
    rintro r w1 ⟨rfl, hb1⟩
    have HB1 := Lib.hid hb1
    clear hb1
    go_wp2_with fail
    go_ret
    rw [HF.out, HNQ.out]
    exact ⟨A, c, rfl, Out.of_below HB1.out HBS.out, HS.out.call HB1.out⟩
  · rw [e1] at HI
    obtain ⟨gg, rfl⟩ : ∃ gg, A = some ⟨gg, 0, none⟩ := by
      obtain ⟨ys, s, h1, -⟩ := hS
      rcases h1.2 with ⟨e, e4⟩ | ⟨g', cap', cur, e, -⟩
      · omega
      · exact ⟨g', (Value.slice.inj e).1⟩
    have HST := Lib.hid (fun (u : World) (hb : Below w.heap.size w u) => del_start (p := p) hS hb hi' e2 e3 hn)
    have hi9 : i < n := by omega
    have HKP := Lib.hid (show (keptE p l (i + 1)).length = i by
      rw [keptE_skip hi' e2]
      unfold keptE
      rw [e3, List.length_take]
      omega)
    have hne1 : ((i : Int) == -1) = false := beq_eq_false_iff_ne.2 (by omega)
    have i9 : (i : Int) < 9223372036854775807 := by omega
    clear hS hC hcf hn h9 e1 e2 e3 hi' HS
    go_enter Try.func43, Try.ntmps43
    go_wp2_with fail
    refine HI.out.mono ?_
    rintro r w1 ⟨rfl, hb1⟩
    have HD := Lib.hid (HST.out w1 hb1)
    have HI9 := Lib.hid hi9
    clear hb1 HST HI
    go_wp2_with fail
    go_loopg [5, 6, 7] n (fun q s5 s6 _ wr => ∃ (k j : Nat), s5 = .int .i64 k ∧ s6 = .int .i64 j ∧ j ≤ n ∧ n - j ≤ q ∧ (keptE p l j).length = k ∧ DelIn 4 54 GlC base hi p l gg n c j w wr)
    case atStart => exact ⟨i, i + 1, rfl, by go_num, HI9.out, by omega, HKP.out, HD.out⟩
    case round =>
      obtain ⟨k, j, rfl, rfl, hjn, hgg, hk, hd⟩ := hrel
      have HDL := Lib.hid hd
      have HK := Lib.hid hk
      have HKJ := Lib.hid (show k < j by have := hd.choose_spec.choose_spec.2.2.2.2.2.2.2.2.2; omega)
      have HGQ := Lib.hid hgg
      clear hk hgg HD HKP
      by_cases hlt : j < n
      · have hm : j < l.length := by have := HNQ.out; omega
        rcases Bool.eq_false_or_eq_true (p l[j]) with hQ | hQ
        · obtain ⟨cs, hcl, hv, hrg⟩ := del_get hd HNQ.out hm
          have HRG := Lib.hid hrg
          have HSK := Lib.hid (show ∀ u, Below wr.heap.size wr u → DelIn 4 54 GlC base hi p l gg n c (j + 1) w u from fun u hu => del_skip (hd.call hu) hm hQ)
          have HLN := Lib.hid (show (keptE p l (j + 1)).length = k by rw [keptE_skip hm hQ, HK.out])
          have HOU := Lib.hid (show Out base hi w wr from hd.choose_spec.choose_spec.2.2.2.2.2.2.1)
          have HCI := HC.out l[j] (List.getElem_mem hm) cs (wr.alloc (.cells cs.toArray 54)) ?hvn (HOU.out.call (balloc (Below.refl _ wr) _) HBS.out)
          case hvn => exact hv
          rw [hQ] at HCI
          clear hQ
          obtain ⟨x, hx⟩ : ∃ x, l[j] = x := ⟨_, rfl⟩
          rw [hx] at hv
          try rw [hx] at HCI
          clear hx hd hrg
          obtain rfl : cs = [.string x.s, .int .i64 x.b, .bool x.h, .int .u64 x.i] := hv
          obtain ⟨xs, xb, xh, xi⟩ := x
          dsimp only at *
          have e0 : wr.cell? ⟨gg, j * 4, none⟩ = some (.string xs) := HRG.out 0 _ rfl
          have e1 : wr.cell? ⟨gg, j * 4 + 1, none⟩ = some (.int .i64 xb) := HRG.out 1 _ rfl
          have e2 : wr.cell? ⟨gg, j * 4 + 2, none⟩ = some (.bool xh) := HRG.out 2 _ rfl
          have e3 : wr.cell? ⟨gg, j * 4 + 3, none⟩ = some (.int .u64 xi) := HRG.out 3 _ rfl
          have HCJ := Lib.hid HCI
          have hk0 : (0 : Int) ≤ (j : Int) := Int.natCast_nonneg _
          have hk1 : (j : Int) < (n : Int) := by omega
          have hk2 : (0 : Int) ≤ (k : Int) := Int.natCast_nonneg _
          have hk3 : (k : Int) < (n : Int) := by have := HKJ.out; omega
          have HLT := Lib.hid hlt
          clear hm hlt HCI hcl
          go_wp2_with fail
          rw [HCF.out]
          refine Calls.mono HCJ.out ?_
          rintro r u ⟨rfl, hb2⟩
          have HBU := Lib.hid (bthen (balloc (Below.refl _ wr) (.cells #[.string xs, .int .i64 xb, .bool xh, .int .u64 xi] 54)) hb2)
          have HW := Lib.hid (Whole.next (show Whole (wr.alloc (.cells #[.string xs, .int .i64 xb, .bool xh, .int .u64 xi] 54)) wr.heap.size 54 #[.string xs, .int .i64 xb, .bool xh, .int .u64 xi] from heap_alloc_new wr _) hb2)
          have b0 : u.cell? ⟨wr.heap.size, 0, none⟩ = some (.string xs) := HW.out.cell 0
          have b1 : u.cell? ⟨wr.heap.size, 1, none⟩ = some (.int .i64 xb) := HW.out.cell 1
          have b2 : u.cell? ⟨wr.heap.size, 2, none⟩ = some (.bool xh) := HW.out.cell 2
          have b3 : u.cell? ⟨wr.heap.size, 3, none⟩ = some (.int .u64 xi) := HW.out.cell 3
          clear hb2 e0 e1 e2 e3
          have HDN := Lib.hid (HSK.out u HBU.out)
          go_wp2_with fail
          go_roundg (n - (j + 1))
          case rel => exact ⟨k, j + 1, rfl, by go_num, HLT.out, Nat.le_refl _, HLN.out, HDN.out⟩
          case measure => have := HLT.out; have := HGQ.out; omega
        · obtain ⟨cs, hcl, hv, hrg⟩ := del_get hd HNQ.out hm
          have HRG := Lib.hid hrg
          have HKE := Lib.hid (show ∀ u, Below wr.heap.size wr u → u.there gg (k * 4) 4 ∧ DelIn 4 54 GlC base hi p l gg n c (j + 1) w (u.setCells gg (k * 4) cs) from fun u hu => by
            have h2 := del_keep (hd.call hu) HNQ.out hm hQ hcl (fun q v hq => by
              rw [cellNext (World.block_lt_of_cell? wr _ (hrg q v hq)) hu]
              exact hrg q v hq)
            rw [HK.out] at h2
            exact h2)
          have HLN := Lib.hid (show (keptE p l (j + 1)).length = k + 1 by rw [keptE_keep hm hQ, List.length_append, HK.out]; rfl)
          have HOU := Lib.hid (show Out base hi w wr from hd.choose_spec.choose_spec.2.2.2.2.2.2.1)
          have HCI := HC.out l[j] (List.getElem_mem hm) cs (wr.alloc (.cells cs.toArray 54)) ?hvn (HOU.out.call (balloc (Below.refl _ wr) _) HBS.out)
          case hvn => exact hv
          rw [hQ] at HCI
          clear hQ
          obtain ⟨x, hx⟩ : ∃ x, l[j] = x := ⟨_, rfl⟩
          rw [hx] at hv
          try rw [hx] at HCI
          clear hx hd hrg
          obtain rfl : cs = [.string x.s, .int .i64 x.b, .bool x.h, .int .u64 x.i] := hv
          obtain ⟨xs, xb, xh, xi⟩ := x
          dsimp only at *
          have e0 : wr.cell? ⟨gg, j * 4, none⟩ = some (.string xs) := HRG.out 0 _ rfl
          have e1 : wr.cell? ⟨gg, j * 4 + 1, none⟩ = some (.int .i64 xb) := HRG.out 1 _ rfl
          have e2 : wr.cell? ⟨gg, j * 4 + 2, none⟩ = some (.bool xh) := HRG.out 2 _ rfl
          have e3 : wr.cell? ⟨gg, j * 4 + 3, none⟩ = some (.int .u64 xi) := HRG.out 3 _ rfl
          have HCJ := Lib.hid HCI
          have hk0 : (0 : Int) ≤ (j : Int) := Int.natCast_nonneg _
          have hk1 : (j : Int) < (n : Int) := by omega
          have hk2 : (0 : Int) ≤ (k : Int) := Int.natCast_nonneg _
          have hk3 : (k : Int) < (n : Int) := by have := HKJ.out; omega
          have HLT := Lib.hid hlt
          clear hm hlt HCI hcl
          go_wp2_with fail
          rw [HCF.out]
          refine Calls.mono HCJ.out ?_
          rintro r u ⟨rfl, hb2⟩
          have HBU := Lib.hid (bthen (balloc (Below.refl _ wr) (.cells #[.string xs, .int .i64 xb, .bool xh, .int .u64 xi] 54)) hb2)
          have HW := Lib.hid (Whole.next (show Whole (wr.alloc (.cells #[.string xs, .int .i64 xb, .bool xh, .int .u64 xi] 54)) wr.heap.size 54 #[.string xs, .int .i64 xb, .bool xh, .int .u64 xi] from heap_alloc_new wr _) hb2)
          have b0 : u.cell? ⟨wr.heap.size, 0, none⟩ = some (.string xs) := HW.out.cell 0
          have b1 : u.cell? ⟨wr.heap.size, 1, none⟩ = some (.int .i64 xb) := HW.out.cell 1
          have b2 : u.cell? ⟨wr.heap.size, 2, none⟩ = some (.bool xh) := HW.out.cell 2
          have b3 : u.cell? ⟨wr.heap.size, 3, none⟩ = some (.int .u64 xi) := HW.out.cell 3
          clear hb2 e0 e1 e2 e3
          obtain ⟨hth, hdn⟩ := HKE.out u HBU.out
          have HTH := Lib.hid hth
          have HDN := Lib.hid hdn
          clear hth hdn
          go_wp2_with (refine wpList_store_mid rfl 54 _ _ rfl gg (k * 4) #[.string xs, .int .i64 xb, .bool xh, .int .u64 xi] rfl rfl ?hth ?hsz ?hone ?_)
          case hth => exact HTH.out
          case hsz => exact size_Gl
          case hone => simp [Value.oneCell']
          go_roundg (n - (j + 1))
          case rel => exact ⟨k + 1, j + 1, by go_num, by go_num, HLT.out, Nat.le_refl _, HLN.out, HDN.out⟩
          case measure => have := HLT.out; have := HGQ.out; omega
      · have hjj : j = n := by omega
        subst hjj
        have hd0 : ¬ ((j : Int) < (j : Int)) := by omega
        have HCLR := Lib.hid (fun ty => run_clear_cells (P := Try.prog) wr 23 54 ty (Value.agg #[.string ⟨#[]⟩, .int .i64 0, .bool false, .int .u64 0]) Try.underlying23 (Try.zeroValue54) gg (k * 4) (j - k) (c - k) (by have := HKJ.out; omega) (by simp [Value.cells, Value.oneCell']) (by simp [Value.cells]) (del_there hd HNQ.out HK.out HKJ.out (by simp [Value.cells]; have := HKJ.out; omega)))
        have HFN := Lib.hid (del_done hd HNQ.out (Nat.le_refl _) (Builtin.zeroCells (Value.agg #[.string ⟨#[]⟩, .int .i64 0, .bool false, .int .u64 0]).cells (j - k)).toList)
        rw [HK.out] at HFN
        have hcl := HCLR.out
        have hkc : k ≤ c := by have h1 := del_cap hd; have h2 := HKJ.out; omega
        have hck : ¬ (c = k) := by have h1 := del_cap hd; have h2 := HKJ.out; omega
        have hk2 : (0 : Int) ≤ (k : Int) := Int.natCast_nonneg _
        have hk3 : (k : Int) < (j : Int) := by have := HKJ.out; omega
        clear hd hlt
        generalize hZ : (Builtin.zeroCells (Value.agg #[.string ⟨#[]⟩, .int .i64 0, .bool false, .int .u64 0]).cells (j - k)).toList = zs at hcl HFN
        clear hZ HCLR
        go_wp2_with fail
        go_ret
        obtain ⟨f1, f2, f3⟩ := HFN.out
        have f4 : (l.filter fun x => !p x).length = k := by rw [← f3]; exact HK.out
        exact ⟨some ⟨gg, 0, none⟩, c, by rw [f4]; rfl, f2, by rw [f4]; exact f1⟩
end Go.Proofs.Ytoglmdadpchhoaa
