/- Package elf's reference: Load. -/
import Derived.Test.YtpifndpbmjmglaaF40
import Derived.Deep.RegionHeld3
namespace Go.Proofs.Ytpifndpbmjmglaa
open Go.RowKit

theorem rl_next {w W W' : World} {B B2 : Nat} {c0 c1 c2 c3 : Value} (hb : Below W.heap.size W W') (h : W.cell? ⟨B, 33, none⟩ = some c0 ∧ W.cell? ⟨B2, 0, none⟩ = some c1 ∧ W.cell? ⟨B2, 1, none⟩ = some c2 ∧ W.cell? ⟨B2, 3, none⟩ = some c3 ∧ Below w.heap.size w W) :
    W'.cell? ⟨B, 33, none⟩ = some c0 ∧ W'.cell? ⟨B2, 0, none⟩ = some c1 ∧ W'.cell? ⟨B2, 1, none⟩ = some c2 ∧ W'.cell? ⟨B2, 3, none⟩ = some c3 ∧ Below w.heap.size w W' := by
  obtain ⟨h0, h1, h2, h3, h5⟩ := h
  have hc := (bcell hb).1
  have hB := World.block_lt_of_cell? W _ h0
  have hB2 := World.block_lt_of_cell? W _ h1
  exact ⟨(hc _ _ hB).trans h0, (hc _ _ hB2).trans h1, (hc _ _ hB2).trans h2, (hc _ _ hB2).trans h3, bthen h5 hb⟩
theorem rl_below {w W : World} {B B2 : Nat} {c0 c1 c2 c3 : Value} (h : W.cell? ⟨B, 33, none⟩ = some c0 ∧ W.cell? ⟨B2, 0, none⟩ = some c1 ∧ W.cell? ⟨B2, 1, none⟩ = some c2 ∧ W.cell? ⟨B2, 3, none⟩ = some c3 ∧ Below w.heap.size w W) : Below w.heap.size w W := h.2.2.2.2
/-- what the reference's Load comes to -/
def RLoadPost (l : List Sg) (e : Int) (inp : ByteArray) (w : World) (r : Ending) (w' : World) : Prop :=
  ∃ k : Mc, r = .returned (.tuple #[.agg (mcells k), .int .i64 (ldE l e)]) ∧ Below w.heap.size w w' ∧ (ldE l e ≠ 0 → k = zeroMc) ∧
    (ldE l e = 0 → ∃ A n c, k = machOf e inp A n c ∧ Pages w' (.slice A n c) (loadF [] l))
set_option maxRecDepth 100000 in
set_option maxHeartbeats 4000000 in
theorem rload_any0 (l : List Sg) (e : Int) (A : Option Addr) (nv cap : Nat) (inp : ByteArray) (w : World) (hS : Segs w (.slice A nv cap) l) (hI : ∀ s ∈ l, SgIn s) (hm : mayB l e = false) :
    Calls Try.prog 6 #[.agg #[.int .u64 e, .slice A nv cap], .string inp] w (RLoadPost l e inp w) := by
  have HM := Lib.hid (fun (W : World) (hb : Below w.heap.size w W) => rmay_any l e A nv cap W (hS.next hb) hI)
  rw [hm] at HM
  have HE := Lib.hid (show ldE l e = 1 by unfold ldE; rw [hm]; rfl)
  clear hS hI hm
  go_enter Try.func6, Try.ntmps6
  go_wp2_with (refine alloc_mach rfl rfl ?_)
  obtain ⟨W, hW⟩ : ∃ W, W = ((w.alloc (.cells #[.int .u64 e, .slice A nv cap] 25)).alloc (.cells (mcells zeroMc) 30)) := ⟨_, rfl⟩
  have H2 := Lib.hid (two_new w _ _ _ W hW)
  rw [← hW]
  clear hW
  refine (HM.out _ H2.out.2.1).mono ?_
  rintro r w1 ⟨rfl, hb⟩
  have HZ := Lib.hid (H2.out.2.2.2.next hb)
  have HB := Lib.hid (bthen H2.out.2.1 hb)
  clear hb
  go_wp2_with (refine store_mach rfl _ _ rfl _ zeroMc rfl rfl _ HZ.out ?_)
  refine bodyPost_ret (results_mach_two Try.results6 _ _ _ zeroMc _ rfl rfl (HZ.out.row zeroMc)) rfl ?_
  exact ⟨zeroMc, by rw [HE.out]; rfl, below_row HB.out _ (by omega), fun _ => rfl, fun h => by rw [HE.out] at h; cases h⟩
set_option maxRecDepth 100000 in
set_option maxHeartbeats 16000000 in
theorem rload_any1 (l : List Sg) (e : Int) (A : Option Addr) (nv cap : Nat) (inp : ByteArray) (w : World) (hS : Segs w (.slice A nv cap) l) (hI : ∀ s ∈ l, SgIn s) (hm : mayB l e = true) :
    Calls Try.prog 6 #[.agg #[.int .u64 e, .slice A nv cap], .string inp] w (RLoadPost l e inp w) := by
  have HM := Lib.hid (fun (W : World) (hb : Below w.heap.size w W) => rmay_any l e A nv cap W (hS.next hb) hI)
  rw [hm] at HM
  have HOK := Lib.hid (may_ok hm hI)
  have HE := Lib.hid (show ldE l e = loadE [] l by unfold ldE; rw [hm]; rfl)
  have hn := hS.len
  have HN := Lib.hid hn
  have HS := Lib.hid hS
  have n4 : (nv : Int) ≤ 4 := by
    unfold mayB segsB at hm
    simp only [Bool.and_eq_true, decide_eq_true_eq] at hm
    omega
  clear hS hI hm hn
  go_enter Try.func6, Try.ntmps6
  go_wp2_with (refine alloc_mach rfl rfl ?_)
  obtain ⟨W, hW⟩ : ∃ W, W = ((w.alloc (.cells #[.int .u64 e, .slice A nv cap] 25)).alloc (.cells (mcells zeroMc) 30)) := ⟨_, rfl⟩
  have H2 := Lib.hid (two_new w _ _ _ W hW)
  rw [← hW]
  clear hW
  refine (HM.out _ H2.out.2.1).mono ?_
  rintro r w1 ⟨rfl, hb⟩
  have HZ := Lib.hid (H2.out.2.2.2.next hb)
  have HB := Lib.hid (bthen H2.out.2.1 hb)
  have HX := Lib.hid (fun (U : World) (hU : Below w1.heap.size w1 U) => (show U.cell? ⟨w.heap.size, 0, none⟩ = some (.int .u64 e) ∧ U.cell? ⟨w.heap.size, 1, none⟩ = some (.slice A nv cap) from by
    have h := ((bthen hb hU).block w.heap.size (Array.getElem?_eq_some_iff.1 H2.out.2.2.1).1).trans H2.out.2.2.1
    exact ⟨Lib.cell_of_heap h 0, Lib.cell_of_heap h 1⟩))
  have HSZ := Lib.hid (show w.heap.size + 2 ≤ w1.heap.size by rw [← H2.out.1]; exact hb.size)
  clear hb H2 HM
  obtain ⟨k0, k1⟩ := HX.out _ (Below.refl _ _)
  have HNM := Lib.hid (Mach.new w1 zeroMc)
  go_upto_region 4 with fail
  go_upto_region 5 with (first | (refine alloc_mach rfl rfl ?_) | (refine store_mach rfl _ _ rfl _ (machOf e inp none 0 0) rfl rfl _ HNM.out ?_))
  clear k0 k1
  obtain ⟨w2, hw2⟩ : ∃ U, U = (w1.alloc (.cells (mcells zeroMc) 30)).setRow w1.heap.size (mcells (machOf e inp none 0 0)) := ⟨_, rfl⟩
  have HM2 := Lib.hid (show Mach w2 w1.heap.size (machOf e inp none 0 0) by rw [hw2]; exact HNM.out.row _)
  have HB2 := Lib.hid (show Below w1.heap.size w1 w2 by rw [hw2]; exact below_row (balloc (Below.refl _ w1) _) _ (Nat.le_refl _))
  rw [← hw2]
  clear hw2 HNM
  have HRN := Lib.hid rightNil
  obtain ⟨M0, hM0⟩ : ∃ n, w1.heap.size = n := ⟨_, rfl⟩
  rw [hM0] at HM2
  have HM0 := Lib.hid (show w1.heap.size ≤ M0 ∧ M0 ≤ w1.heap.size by omega)
  rw [hM0]
  clear hM0
  go_wp2_with fail
  go_loopw [8] (fun iv wr => ∃ (i : Nat) (mA : Option Addr) (mn mc : Nat), i ≤ nv ∧ iv = .int .i64 i ∧ Mach wr M0 (machOf e inp mA mn mc) ∧ Pages wr (.slice mA mn mc) (loadF [] (l.take i)) ∧ loadE [] (l.take i) = 0 ∧ Below w1.heap.size w1 wr) (fun iv _ => nv - (intOf iv).toNat)
  case atStart => exact ⟨0, none, 0, 0, Nat.zero_le _, rfl, HM2.out, .inl ⟨rfl, .inl rfl⟩, rfl, HB2.out⟩
  case round =>
    obtain ⟨i, mA, mn, mc, hi, rfl, hmm, ho, ht, hbr⟩ := hrel
    have HBR := Lib.hid hbr
    have HMR := Lib.hid hmm
    have HO := Lib.hid ho
    have HT := Lib.hid ht
    obtain ⟨k0, k1⟩ := HX.out _ hbr
    clear hbr ho ht hmm
    by_cases hlt : i < nv
    case neg =>
      have hd : decide ((i : Int) < (nv : Int)) = false := by simp; omega
      have hT : l.take i = l := List.take_of_length_le (by have := HN.out; omega)
      rw [hT] at HO HT
      have HZ2 := Lib.hid (HZ.out.next HBR.out)
      have HB3 := Lib.hid (bthen HB.out HBR.out)
      clear hT
      go_wp2_with (first | (refine load_mach rfl _ rfl _ rfl _ HMR.out ?_) | (refine store_mach rfl _ _ rfl _ (machOf e inp mA mn mc) rfl rfl _ HZ2.out ?_))
      refine bodyPost_ret (results_mach_two Try.results6 _ _ _ (machOf e inp mA mn mc) _ rfl rfl (HZ2.out.row (machOf e inp mA mn mc))) rfl ?_
      refine ⟨machOf e inp mA mn mc, by rw [HE.out, HT.out]; rfl, below_row HB3.out _ (by omega), fun h => absurd (HE.out.trans HT.out) h, fun _ => ⟨mA, mn, mc, rfl, pages_keepM HO.out HZ2.out (grownBy_setRow wr _ _)⟩⟩
    have hil : i < l.length := by have := HN.out; omega
    obtain ⟨b, off, hA, c0, c1, c2, c3⟩ := (HS.out.next (bthen HB.out HBR.out)).at_ hil
    subst hA
    have hR : M.Right (loadF [] (l.take i)) := loadF_right _ _ HRN.out (fun g hg => HOK.out g (List.mem_of_mem_take hg))
    have hG := HOK.out _ (List.getElem_mem hil)
    have HSN := Lib.hid (loadE_snoc (l.take i) [] l[i] HT.out)
    have HSF := Lib.hid (loadF_snoc (l.take i) [] l[i] HT.out)
    have HSB := Lib.hid (loadE_bad (l.take i) [] l[i] (l.drop (i + 1)) HT.out)
    rw [← List.take_succ_eq_append_getElem hil] at HSN HSF
    rw [show l.take i ++ l[i] :: l.drop (i + 1) = l from by rw [← List.drop_eq_getElem_cons hil, List.take_append_drop]] at HSB
    obtain ⟨g, hg⟩ : ∃ g, l[i] = g := ⟨_, rfl⟩
    rw [hg] at c0 c1 c2 c3 hG HSN HSF HSB
    obtain ⟨m, hm⟩ : ∃ m, loadF [] (l.take i) = m := ⟨_, rfl⟩
    rw [hm] at HO hR HSN HSF HSB
    have HLZ := Lib.hid (layE_zero hR hG)
    have HLF := Lib.hid (fun (he : mapErr m g.a (sgN g) g.p = 0) => lay_fill hR hG he)
    have hK : M.Right (mapM m g.a (sgN g) g.p) := mapM_right hR hG.a0
    have HMP := Lib.hid (fun (U : World) (hU : Below wr.heap.size wr U) => refMap_any g.a (sgN g) g.p (HO.out.next hU) hR.wf hG.a0 (by have := hG.a1; omega))
    have HFL := Lib.hid (fun (U : World) (v : Value) (h : Pages U v (mapM m g.a (sgN g) g.p)) => refFill_any g.a g.d h hK.wf hG.a0 (by have := hG.a1; omega) (by have := hG.dz; have := hG.z2; omega))
    have HLM := Lib.hid (show layM m g = fillM (mapM m g.a (sgN g) g.p) g.a g.d from rfl)
    have hpg := hG.pages
    obtain ⟨a0, a1, md, p1, p7, p3, q1, q2, dz⟩ := hG
    have HU := Lib.hid (fun W => rup_any g.z (by omega) (by omega) W)
    have hq : (upI g.z).tdiv 256 = (sgN g : Int) := by
      rw [Int.tdiv_eq_ediv_of_nonneg (by unfold upI; omega)]
      unfold sgN
      have : 0 ≤ upI g.z / 256 := by unfold upI; omega
      omega
    have hw1 : IntKind.u64.wrap (sgN g : Int) = (sgN g : Int) := by rw [IntKind.wrap_u64]; omega
    have hw2 : IntKind.i64.wrap (sgN g : Int) = (sgN g : Int) := by rw [IntKind.wrap_i64]; omega
    obtain ⟨K, hKK⟩ : ∃ K, mapM m g.a (sgN g) g.p = K := ⟨_, rfl⟩
    obtain ⟨er, her⟩ : ∃ E, mapErr m g.a (sgN g) g.p = E := ⟨_, rfl⟩
    rw [hKK] at HMP HFL HLM HLF
    rw [her] at HMP HLZ HLF
    obtain ⟨N, hNN⟩ : ∃ N, sgN g = N := ⟨_, rfl⟩
    rw [hNN] at HMP hq hw1 hw2
    obtain ⟨u, hu⟩ : ∃ u, upI g.z = u := ⟨_, rfl⟩
    rw [hu] at HU hq
    obtain ⟨a, p, d, z⟩ := g
    dsimp only at c0 c1 c2 c3 HMP HFL HLM HU a0 a1 HLF
    have HBS := Lib.hid (balloc (Below.refl _ wr) (.cells #[.int .u64 a, .int .i64 p, .string d, .int .u64 z] 41))
    have HXS := Lib.hid (fun (U : World) (hU : Below (wr.alloc (.cells #[.int .u64 a, .int .i64 p, .string d, .int .u64 z] 41)).heap.size (wr.alloc (.cells #[.int .u64 a, .int .i64 p, .string d, .int .u64 z] 41)) U) => (show U.cell? ⟨wr.heap.size, 0, none⟩ = some (.int .u64 a) ∧ U.cell? ⟨wr.heap.size, 1, none⟩ = some (.int .i64 p) ∧ U.cell? ⟨wr.heap.size, 2, none⟩ = some (.string d) ∧ U.cell? ⟨wr.heap.size, 3, none⟩ = some (.int .u64 z) from by
      have h := (hU.block wr.heap.size (by simp)).trans (heap_alloc_new wr _)
      exact ⟨Lib.cell_of_heap h 0, Lib.cell_of_heap h 1, Lib.cell_of_heap h 2, Lib.cell_of_heap h 3⟩))
    have HMS := Lib.hid (HMR.out.next HBS.out)
    obtain ⟨-, -, m33, -, -, -, -, -, -⟩ := HMS.out.cells
    simp only [machOf] at m33
    obtain ⟨s0, s1, s2, s3⟩ := HXS.out _ (Below.refl _ _)
    have HLT := Lib.hid hlt
    have i0 : (0 : Int) ≤ (i : Int) := by omega
    have i1 : (i : Int) < (nv : Int) := by omega
    clear hlt hil hR hK hpg md p1 p7 p3 q1 q2 dz hKK her hNN hu hm hg
    go_upto_region 9 with fail
    have HBD := Lib.hid (show Below wr.heap.size wr ((wr.alloc (.cells #[.int .u64 a, .int .i64 p, .string d, .int .u64 z] 41)).drew) from HBS.out.drew)
    have HB8 := Lib.hid (show Below (wr.alloc (.cells #[.int .u64 a, .int .i64 p, .string d, .int .u64 z] 41)).heap.size (wr.alloc (.cells #[.int .u64 a, .int .i64 p, .string d, .int .u64 z] 41)) ((wr.alloc (.cells #[.int .u64 a, .int .i64 p, .string d, .int .u64 z] 41)).drew) from (Below.refl _ _).drew)
    have HMQ := Lib.hid (fun (U : World) (hU : Below (wr.alloc (.cells #[.int .u64 a, .int .i64 p, .string d, .int .u64 z] 41)).heap.size (wr.alloc (.cells #[.int .u64 a, .int .i64 p, .string d, .int .u64 z] 41)) U) => HMP.out U (bthen HBS.out hU))
    generalize (wr.alloc (.cells #[.int .u64 a, .int .i64 p, .string d, .int .u64 z] 41)) = W3 at *
    go_cut [10, 11] from 23 to 64 (fun v10 v11 wx => v11 = .int .i64 er ∧ Pages wx v10 K ∧ Below W3.heap.size W3 wx)
    case first =>
      have hd : W3.drew.cell? ⟨M0, 33, none⟩ = some (.slice mA mn mc) ∧ W3.drew.cell? ⟨wr.heap.size, 0, none⟩ = some (.int .u64 a) ∧ W3.drew.cell? ⟨wr.heap.size, 1, none⟩ = some (.int .i64 p) ∧ W3.drew.cell? ⟨wr.heap.size, 3, none⟩ = some (.int .u64 z) ∧ Below W3.heap.size W3 W3.drew := ⟨m33, s0, s1, s3, (Below.refl _ _).drew⟩
      go_region_held3 (fun W' => W'.cell? ⟨M0, 33, none⟩ = some (.slice mA mn mc) ∧ W'.cell? ⟨wr.heap.size, 0, none⟩ = some (.int .u64 a) ∧ W'.cell? ⟨wr.heap.size, 1, none⟩ = some (.int .i64 p) ∧ W'.cell? ⟨wr.heap.size, 3, none⟩ = some (.int .u64 z) ∧ Below W3.heap.size W3 W') (first | assumption | exact hd | exact rl_next (by assumption) (by assumption))
        (first
          | (go_at_call 13; refine Calls.mono (HU.out _) ?_; rintro r' wa ⟨rfl, rfl⟩)
          | (go_at_call 12; refine Calls.mono (HMQ.out _ (rl_below (by assumption))) ?_; rintro r' wb ⟨v4, rfl, hp4, hb4⟩; have HP4 := Lib.hid hp4; clear hp4))
      all_goals
        have hfin := rl_below (w := W3) (by assumption)
        have HB4 := Lib.hid hfin
        clear hfin hd
        go_wp2_with fail
        go_meet
        case rel => exact ⟨rfl, by first | exact HP4.out | exact HP4.out.next (Below.refl _ _).drew, HB4.out⟩
    case rest =>
      obtain ⟨rfl, hp, hb⟩ := hcut
      have HP := Lib.hid hp
      have HBC := Lib.hid hb
      obtain ⟨A4, c4, hv4⟩ := hp.slice
      subst hv4
      obtain ⟨s0, s1, s2, s3⟩ := HXS.out _ hb
      have HB5 := Lib.hid (bthen HBR.out (bthen HBS.out hb))
      by_cases h0 : er = 0
      case neg =>
        have e1 : (er != 0) = true := by simpa using h0
        have HZ2 := Lib.hid (HZ.out.next HB5.out)
        have H0 := Lib.hid h0
        have HE2 := Lib.hid (show ldE l e = er by rw [HE.out]; rw [← HLZ.out]; exact HSB.out (by rw [HLZ.out]; exact h0))
        have HB3 := Lib.hid (bthen HB.out HB5.out)
        clear h0 hp hb s0 s1 s2 s3
        go_wp2_with (refine store_mach rfl _ _ rfl _ zeroMc rfl rfl _ HZ2.out ?_)
        refine bodyPost_ret (results_mach_two Try.results6 _ _ _ zeroMc _ rfl rfl (HZ2.out.row zeroMc)) rfl ?_
        exact ⟨zeroMc, by rw [HE2.out]; rfl, below_row HB3.out _ (by omega), fun _ => rfl, fun h => absurd (HE2.out.symm.trans h) H0.out⟩
      subst h0
      have HFC := Lib.hid (HFL.out wc _ hp)
      have hlf := HLF.out rfl
      rw [hlf, ← HLM.out] at HFC
      have hle : layE m ⟨a, p, d, z⟩ = 0 := HLZ.out
      have HSN2 := Lib.hid ((HSN.out).trans hle)
      have HSF2 := Lib.hid (HSF.out hle)
      rw [← HSF2.out] at HFC
      clear hp hb hlf hle s1 s3
      go_wp2_with fail
      refine HFC.out.mono ?_
      rintro r w5 ⟨v5, rfl, hp5, hb5⟩
      obtain ⟨A5, c5, hv5⟩ := hp5.slice
      subst hv5
      have HB6 := Lib.hid (bthen HB5.out hb5)
      have HM5 := Lib.hid (HMS.out.next (bthen HBC.out hb5))
      have hM6 := Whole.put HM5.out 33 (.slice A5 (loadF [] (l.take (i + 1))).length c5)
      rw [mcells_set33] at hM6
      have HM6 := Lib.hid (show Mach (w5.setCell ⟨M0, 33, none⟩ (.slice A5 (loadF [] (l.take (i + 1))).length c5)) M0 (machOf e inp A5 (loadF [] (l.take (i + 1))).length c5) from hM6)
      have HP6 := Lib.hid (pages_keepM hp5 HM5.out (grownBy_put w5 M0 33 (.slice A5 (loadF [] (l.take (i + 1))).length c5)))
      have HB7 := Lib.hid (HB6.out.setCell (p := ⟨M0, 33, none⟩) (by have := HM0.out; simp; omega) (.slice A5 (loadF [] (l.take (i + 1))).length c5))
      obtain ⟨-, -, m33, -, -, -, -, -, mf⟩ := HM5.out.cells
      have mf33 := mf 33
      clear hM6 hp5 hb5 s0 s2 mf
      obtain ⟨nl, hnl⟩ : ∃ n, (loadF [] (l.take (i + 1))).length = n := ⟨_, rfl⟩
      rw [hnl] at HM6 HP6 HB7 ⊢
      clear hnl
      go_wp2_with fail
      go_roundw
      case rel => exact ⟨i + 1, A5, nl, c5, HLT.out, by go_num, HM6.out, HP6.out, HSN2.out, HB7.out⟩
      case measure => have := HLT.out; simp [intOf]; omega
/-- the reference's Load, of every image -/
theorem rload_any (l : List Sg) (e : Int) (A : Option Addr) (nv cap : Nat) (inp : ByteArray) (w : World) (hS : Segs w (.slice A nv cap) l) (hI : ∀ s ∈ l, SgIn s) :
    Calls Try.prog 6 #[.agg #[.int .u64 e, .slice A nv cap], .string inp] w (RLoadPost l e inp w) := by
  cases hm : mayB l e with
  | false => exact rload_any0 l e A nv cap inp w hS hI hm
  | true => exact rload_any1 l e A nv cap inp w hS hI hm
end Go.Proofs.Ytpifndpbmjmglaa
