/- What the texts of package resolve stand on, of the packages ir and pick (part 6). -/
import Derived.Test.YtjldddpchiaalaaHU4
namespace Go.Proofs.Ytjldddpchiaalaa
open Go.RowKit Go.Shelf Go.Maps
attribute [local go_sem] Oper.semAt_some
set_option maxRecDepth 100000 in
set_option maxHeartbeats 4000000 in
theorem found_any (m : Md) (F G : Option Addr) (nf cf ng cg mb mn : Nat) (w : World) (hok : MdOk m) (hnf : m.f.length = nf) (hn : (namesM m).Nodup) (hS : MdAt w (.slice F nf cf) (.slice G ng cg) m) (hM : w.ownsMap Try.prog 9 thR mb mn (mapD (entM m))) :
    Calls Try.prog 31 #[.agg #[.slice F nf cf, .slice G ng cg], .map (some mb)] w fun e w' => e = .returned (.int .i64 (foundE m)) ∧ Below w.heap.size w w' := by
  have HS := Lib.hid hS
  have HOK := Lib.hid hok
  have HNF := Lib.hid (show m.f.length ≤ nf ∧ nf ≤ m.f.length by omega)
  have HM := Lib.hid hM
  have HND := Lib.hid hn
  have f9 : (nf : Int) ≤ 9223372036854775807 := by have := hok.2.2.1; omega
  clear hS hok hnf hn hM
  refine (callsIn_wide (n := 3)).1 ?_
  refine callsIn_of_wp_marks Try.func31 rfl trivial ?_ rfl
  simp only [Try.ntmps31, List.size_toArray, List.length_cons, List.length_nil, Nat.reduceAdd, Nat.reduceSub, Array.replicate_succ, Array.replicate_zero, List.push_toArray, List.append_toArray, List.nil_append, List.cons_append]
  gi_wp2_with (fail)
  --LOOP
  have bM := (((Boxed.new (w.alloc (.cells #[.slice F nf cf, .slice G ng cg] 25)) 79 (.map (some mb))).alloc (.cells #[.int .i64 0] 27)).alloc (.cells #[.int .i64 0] 27))
  have bR := ((Boxed.new ((w.alloc (.cells #[.slice F nf cf, .slice G ng cg] 25)).alloc (.cells #[.map (some mb)] 79)) 27 (.int .i64 0)).alloc (.cells #[.int .i64 0] 27))
  have bE := (Boxed.new (((w.alloc (.cells #[.slice F nf cf, .slice G ng cg] 25)).alloc (.cells #[.map (some mb)] 79)).alloc (.cells #[.int .i64 0] 27)) 27 (.int .i64 0))
  have hB0 := balloc (balloc (balloc (balloc (Below.refl _ w) (.cells #[.slice F nf cf, .slice G ng cg] 25)) (.cells #[.map (some mb)] 79)) (.cells #[.int .i64 0] 27)) (.cells #[.int .i64 0] 27)
  simp only [World.size_alloc] at bM bR bE
  have HBM := Lib.hid bM
  have HBR := Lib.hid bR
  have HBE := Lib.hid bE
  have HB0 := Lib.hid hB0
  clear bM bR bE hB0
  generalize ((((w.alloc (.cells #[.slice F nf cf, .slice G ng cg] 25)).alloc (.cells #[.map (some mb)] 79)).alloc (.cells #[.int .i64 0] 27)).alloc (.cells #[.int .i64 0] 27)) = W0 at *
  refine wpIn_loop (fun a wr => ∃ (ds : List Deferred) (u6 u7 u8 u9 u10 u11 u15 u16 u17 u18 u19 u20 u21 u22 u23 u24 u25 u26 u27 u28 u29 u30 u31 u32 u33 u34 u35 u36 u37 u38 u39 u40 u41 u42 u43 u44 u45 u46 u47 u48 u49 u50 u51 u52 u53 u54 : Value), (∃ k : Nat, k ≤ nf ∧ u15 = .int .i64 k ∧ (insT m k).any (noneI m) = false ∧ Boxed wr (w.heap.size + 1) 79 (.map (some mb)) ∧ Boxed wr (w.heap.size + 1 + 1) 27 (.int .i64 0) ∧ Boxed wr (w.heap.size + 1 + 1 + 1) 27 (.int .i64 (eOf m (insT m k))) ∧ Marks w.heap.size wr ds ∧ Below w.heap.size w wr) ∧ a = { tmps := #[.agg #[.slice F nf cf, .slice G ng cg], .map (some mb), .pointer (some ⟨w.heap.size, 0, none⟩), .pointer (some ⟨w.heap.size + 1, 0, none⟩), .pointer (some ⟨w.heap.size + 1 + 1, 0, none⟩), .pointer (some ⟨w.heap.size + 1 + 1 + 1, 0, none⟩), u6, u7, u8, u9, u10, u11, .pointer (some ⟨w.heap.size, 0, none⟩), .slice F nf cf, .int .i64 nf, u15, u16, u17, u18, u19, u20, u21, u22, u23, u24, u25, u26, u27, u28, u29, u30, u31, u32, u33, u34, u35, u36, u37, u38, u39, u40, u41, u42, u43, u44, u45, u46, u47, u48, u49, u50, u51, u52, u53, u54, undef], defers := ds }) (fun a _ => nf - (intOf (a.tmps.getD 15 undef)).toNat) ?_ ?_
  · refine ⟨[], _, _, _, _, _, _, _, _, _, _, _, _, _, _, _, _, _, _, _, _, _, _, _, _, _, _, _, _, _, _, _, _, _, _, _, _, _, _, _, _, _, _, _, _, _, _, ?_, rfl⟩
    exact ⟨0, Nat.zero_le _, rfl, rfl, HBM.out, HBR.out, HBE.out, trivial, HB0.out⟩
  intro a wr hinv
  obtain ⟨ds, u6, u7, u8, u9, u10, u11, u15, u16, u17, u18, u19, u20, u21, u22, u23, u24, u25, u26, u27, u28, u29, u30, u31, u32, u33, u34, u35, u36, u37, u38, u39, u40, u41, u42, u43, u44, u45, u46, u47, u48, u49, u50, u51, u52, u53, u54, ⟨k, hk, hu15, hnn, bm, br, be, hmk, hb⟩, ha⟩ := hinv
  subst hu15
  subst ha
  try dsimp only
  have HNN := Lib.hid hnn
  have HM1 := Lib.hid bm
  have HR1 := Lib.hid br
  have HE1 := Lib.hid be
  have HMK := Lib.hid hmk
  have HB1 := Lib.hid hb
  clear hnn bm br be hmk hb HBM HBR HBE HB0
  by_cases hlt : k < nf
  case neg =>
    have hd : decide ((k : Int) < (nf : Int)) = false := by simp; omega
    have c5 := HE1.out.cell
    have f4 := HR1.out.frozen
    have c4 := HR1.out.cell
    have HV := Lib.hid (show foundE m = eOf m (insT m k) by
      rw [insT_all m k (by have := HNF.out; omega)]
      exact found_some (by rw [← insT_all m k (by have := HNF.out; omega)]; exact HNN.out))
    gi_wp2_with (fail)
    have bs := HR1.out.set (.int .i64 (eOf m (insT m k)))
    refine leaves_marks _ _ (HMK.out.kept fun D _ h => ?_) (by have := HB1.out.size; simp [World.setCell]; omega) (fun W' hb' hk' => ?_)
    · exact ((KeepsOthers.setCell wr ⟨w.heap.size + 1 + 1, 0, none⟩ (.int .i64 (eOf m (insT m k)))).same D _ h rfl)
    · have hc := (show Boxed W' (w.heap.size + 1 + 1) 27 (.int .i64 (eOf m (insT m k))) from hk' _ _ _ _ bs).cell
      refine ⟨.int .i64 (eOf m (insT m k)), ?_, by rw [HV.out], (HB1.out.setCell (p := ⟨w.heap.size + 1 + 1, 0, none⟩) (by simp; omega) _).trans hb'⟩
      simp [results, Try.f31, go_sem, hc]
  have hmf : k < m.f.length := by have := HNF.out; omega
  obtain ⟨b, off, hA, hbl, e0⟩ := RowOf.at_ HS.out.1 hmf
  subst hA
  obtain ⟨d0, d1, d2, A, cc, d3, hbk⟩ := e0
  have c0 := (cellNext hbl HB1.out _).trans d0
  have c1 := (cellNext hbl HB1.out _).trans d1
  have c2 := (cellNext hbl HB1.out _).trans d2
  have c3 := (cellNext hbl HB1.out _).trans d3
  clear d0 d1 d2 d3
  have HOKF := Lib.hid (HOK.out.1 _ (List.getElem_mem hmf))
  have HSUC := Lib.hid (insT_succ m k hmf)
  obtain ⟨fn, hfn⟩ : ∃ fn, m.f[k] = fn := ⟨_, rfl⟩
  rw [hfn] at c0 c1 c2 c3 hbk HOKF HSUC
  obtain ⟨ts, hD⟩ := blkIts_of hbk
  have HD := Lib.hid hD
  obtain ⟨x0, h0⟩ : ∃ x, fn.s = x := ⟨_, rfl⟩
  obtain ⟨x1, h1⟩ : ∃ x, fn.b = x := ⟨_, rfl⟩
  obtain ⟨x2, h2⟩ : ∃ x, fn.p = x := ⟨_, rfl⟩
  obtain ⟨x3, h3⟩ : ∃ x, fn.l.length = x := ⟨_, rfl⟩
  have HX3 := Lib.hid h3
  rw [h0] at c0
  rw [h1] at c1
  rw [h2] at c2
  rw [h3] at c3 HD
  have hk0 : (0 : Int) ≤ (k : Int) := Int.natCast_nonneg _
  have hk1 : (k : Int) < (nf : Int) := by omega
  have HLT := Lib.hid hlt
  clear hD hbk h0 h1 h2 h3 hfn hmf hlt
  gi_wp2_with (fail)
  refine ⟨trivial, ?_⟩
  refine (insts_in 2 _ _ _ _ _).mono ?_
  rintro e w1 ⟨rfl, rfl⟩
  gi_wp2_with (fail)
  --RANGE
  have hin := balloc (balloc (Below.refl _ wr) (.cells #[.string x0, .int .i64 x1, .int .i64 x2, .slice A x3 cc] 60)) (.cells #[.string x0, .int .i64 x1, .int .i64 x2, .slice A x3 cc] 60)
  have bM := boxed_below HM1.out hin
  have bR := boxed_below HR1.out hin
  have bE := boxed_below HE1.out hin
  have hB1 := bthen HB1.out hin
  have HMK1 := Lib.hid (HMK.out.kept (W' := (wr.alloc (.cells #[.string x0, .int .i64 x1, .int .i64 x2, .slice A x3 cc] 60)).alloc (.cells #[.string x0, .int .i64 x1, .int .i64 x2, .slice A x3 cc] 60)) (fun D _ h => (hin.block D (Array.getElem?_eq_some_iff.1 h).1).trans h))
  have hFn := Lib.cell_of_heap (heap_alloc_new (wr.alloc (.cells #[.string x0, .int .i64 x1, .int .i64 x2, .slice A x3 cc] 60)) (.cells #[.string x0, .int .i64 x1, .int .i64 x2, .slice A x3 cc] 60)) 3
  simp only [List.getElem?_toArray, List.getElem?_cons_zero, List.getElem?_cons_succ, World.size_alloc] at hFn
  have HIT := Lib.hid (show ∀ x ∈ ts.flatten, InOk x.i ∧ (∃ A cap, x.v = .slice A x.i.l.length cap) ∧ Ints w x.v x.i.l from fun x hx => by
    refine ⟨?_, HD.out.all x hx⟩
    have h1 : x.i ∈ ts.flatten.map (·.i) := List.mem_map_of_mem hx
    rw [HD.out.ins] at h1
    obtain ⟨l, hl, hxl⟩ := List.mem_flatten.1 h1
    obtain ⟨b', hb', rfl⟩ := List.mem_map.1 hl
    exact (HOKF.out.2.2 b' hb').2.2.2 _ hxl)
  have HINS := Lib.hid (show ts.flatten.map (·.i) = insF fn from HD.out.ins)
  have HPRE := Lib.hid (show insT m (k + 1) <+: insM m from insT_pre m (k + 1))
  have HSZ := Lib.hid (show wr.heap.size ≤ ((wr.alloc (.cells #[.string x0, .int .i64 x1, .int .i64 x2, .slice A x3 cc] 60)).alloc (.cells #[.string x0, .int .i64 x1, .int .i64 x2, .slice A x3 cc] 60)).heap.size by simp; omega)
  have HBW := Lib.hid HB1.out.size
  have HW0 := Lib.hid hin
  clear c0 c1 c2 c3
  generalize (wr.alloc (.cells #[.string x0, .int .i64 x1, .int .i64 x2, .slice A x3 cc] 60)).alloc (.cells #[.string x0, .int .i64 x1, .int .i64 x2, .slice A x3 cc] 60) = W1 at *
  refine wpIn_rangeFunc_ownH (α := {x : It // InOk x.i ∧ (∃ A cap, x.v = .slice A x.i.l.length cap) ∧ Ints w x.v x.i.l}) rfl (by omega) (gf := 73) (lb := #[.pointer (some ⟨wr.heap.size + 1, 0, none⟩)]) rfl trivial (enters_of Try.func73 (by kernel_rfl) rfl)
    (its_stops 2 (by omega) (wr.heap.size + 1) x3 cc A fn.l ts _ HIT.out w W1 HX3.out (by have := HOKF.out.2.1; have := HX3.out; omega) (fun b hb => (HOKF.out.2.2 b hb).1) HD.out hB1 hFn) KeepB.trans (keepB_b hB1.size) (Below.refl _ _) (fun _ => rfl)
    (fun pre W => ((Boxed W (w.heap.size + 1) 79 (.map (some mb)) ∧ Boxed W (w.heap.size + 1 + 1) 27 (.int .i64 0)) ∧ Boxed W (w.heap.size + 1 + 1 + 1) 27 (.int .i64 (eOf m (insT m k ++ pre.map (fun x => x.1.i))))) ∧ ((insT m k ++ pre.map (fun x => x.1.i)).any (noneI m) = false ∧ KeepsFrom 0 W1 W) ∧ (Below w.heap.size w W ∧ w.heap.size ≤ W.heap.size))
    (fun c pre W => Boxed W (w.heap.size + 1 + 1) 27 (.int .i64 8) ∧ ((c = .ret ∧ (insT m k ++ pre.map (fun x => x.1.i)).any (noneI m) = true) ∧ KeepsFrom 0 W1 W) ∧ Below w.heap.size w W)
    (OwnFrom.and (OwnFrom.and (OwnFrom.and (Own.from (boxed_own _ _ _) _) (Own.from (boxed_own _ _ _) _)) (Own.from (boxed_own _ _ (fun pre : List {x : It // InOk x.i ∧ (∃ A cap, x.v = .slice A x.i.l.length cap) ∧ Ints w x.v x.i.l} => Value.int .i64 (eOf m (insT m k ++ pre.map (fun x => x.1.i))))) _)) (OwnFrom.and (OwnFrom.and (ownFrom_pure _ _) (ownFrom_keepsFrom (Nat.le_refl _))) (OwnFrom.and (ownFrom_below (Nat.le_refl _) hB1.size) (fun s X Y row hs hg _ => Nat.le_trans hs hg.size))))
    (fun c => OwnFrom.and (Own.from (boxed_own _ _ _) _) (OwnFrom.and (OwnFrom.and (ownFrom_pure _ _) (ownFrom_keepsFrom (Nat.le_refl _))) (ownFrom_below (Nat.le_refl _) hB1.size)))
    ⟨⟨⟨bM, bR⟩, by simpa using bE⟩, ⟨by simpa using HNN.out, KeepsFrom.refl _ _⟩, hB1, hB1.size⟩
    (fun x a' W => ∃ Bx, BoxedI W Bx x.1 ∧ a' = { tmps := #[.agg #[.slice (some ⟨b, off, none⟩) nf cf, .slice G ng cg], .map (some mb), .pointer (some ⟨w.heap.size, 0, none⟩), .pointer (some ⟨w.heap.size + 1, 0, none⟩), .pointer (some ⟨w.heap.size + 1 + 1, 0, none⟩), .pointer (some ⟨w.heap.size + 1 + 1 + 1, 0, none⟩), u6, .pointer (some ⟨wr.heap.size, 0, none⟩), u8, .pointer (some ⟨Bx, 0, none⟩), u10, u11, .pointer (some ⟨w.heap.size, 0, none⟩), .slice (some ⟨b, off, none⟩) nf cf, .int .i64 nf, .int .i64 k, .bool true, .pointer (some ⟨b, off + k * 4, none⟩), .agg #[.string x0, .int .i64 x1, .int .i64 x2, .slice A x3 cc], .agg #[.string x0, .int .i64 x1, .int .i64 x2, .slice A x3 cc], .func (.func 73) #[] #[.pointer (some ⟨wr.heap.size + 1, 0, none⟩)], .int .i64 x.1.n, inV x.1.i x.1.v, u23, u24, u25, u26, u27, u28, u29, u30, u31, u32, u33, u34, u35, u36, u37, u38, u39, u40, u41, u42, u43, u44, u45, u46, u47, u48, u49, u50, u51, u52, u53, u54, undef], defers := [] })
    (fun x a' s X Y row hs hg hr => by obtain ⟨Bx, h1, h2⟩ := hs; exact ⟨Bx, boxedI_own Bx x.1 () X Y row h1 hg hr, h2⟩)
    ?assign ?body ?done ?stop
  case assign =>
    rintro l pre x W K ⟨⟨⟨b1, b2⟩, b3⟩, ⟨hp, hkf⟩, hb, hsz⟩ hK
    have HK := Lib.hid hK
    clear hK
    obtain ⟨⟨n, ⟨o, a, b', k', s', l'⟩, v⟩, hx⟩ := x
    obtain ⟨-, ⟨A', cap, hv⟩, -⟩ := id hx
    simp only at hv
    subst hv
    simp only [encI, inV]
    gi_wp2
    exact HK.out _ _ ((KeepsOthers.alloc _ _).from _) (KeepB.below hsz (balloc (Below.refl _ _) _)) ⟨⟨⟨b1.alloc _, b2.alloc _⟩, b3.alloc _⟩, ⟨hp, hkf.trans ((KeepsOthers.alloc _ _).from _)⟩, balloc hb _, Nat.le_trans hsz (by simp)⟩ ⟨W.heap.size, BoxedI.new W ⟨n, ⟨o, a, b', k', s', l'⟩, .slice A' l'.length cap⟩, rfl⟩
  case body =>
    rintro l pre x a' W hl hr ⟨⟨⟨b1, b2⟩, b3⟩, ⟨hp, hkf⟩, hb, hsz⟩ ⟨Bx, bx, rfl⟩ hlen
    obtain ⟨A', cap, hv⟩ := x.2.2.1
    obtain ⟨L, hL⟩ : ∃ L, insT m k ++ pre.map (fun x => x.1.i) = L := ⟨_, rfl⟩
    have HL := Lib.hid (show insT m k ++ (pre ++ [x]).map (fun x => x.1.i) = L ++ [x.1.i] by rw [List.map_append, ← List.append_assoc, hL]; rfl)
    rw [hL] at b3 hp
    have HI := Lib.hid (show ((Boxed W (w.heap.size + 1) 79 (.map (some mb)) ∧ Boxed W (w.heap.size + 1 + 1) 27 (.int .i64 0)) ∧ Boxed W (w.heap.size + 1 + 1 + 1) 27 (.int .i64 (eOf m L))) ∧ (L.any (noneI m) = false ∧ KeepsFrom 0 W1 W) ∧ (Below w.heap.size w W ∧ w.heap.size ≤ W.heap.size) from ⟨⟨⟨b1, b2⟩, b3⟩, ⟨hp, hkf⟩, hb, hsz⟩)
    obtain ⟨c0, c1, c2, c3, c4, c5⟩ := bx.cells
    have HX := Lib.hid bx
    have HOW := Lib.hid (HM.out.kept (w' := W) (row := none) ⟨hb.os, hb.tape, hb.output, hb.size, fun k hk _ => hb.block k hk⟩ (by simp))
    have HKY := Lib.hid (skey_of x.2.1.1)
    obtain ⟨l1, l2, l3, l4⟩ := look_map m HND.out x.1.i.s
    obtain ⟨th, hth⟩ : ∃ t, (lookO m x.1.i.s).isSome = t := ⟨_, rfl⟩
    obtain ⟨⟨xb, xp⟩, hxx⟩ : ∃ t, (lookO m x.1.i.s).getD (false, 0) = t := ⟨_, rfl⟩
    have l3 := l3 x.1.i rfl
    have l4 := l4 x.1.i rfl
    rw [hth] at l1 l3
    rw [hxx] at l2 l3 l4
    simp only at l3 l4
    obtain ⟨nn, hnn⟩ : ∃ X, x.1.i.l.length = X := ⟨_, rfl⟩
    rw [hnn] at hv l4
    rw [hv] at c5
    have HXC := Lib.hid (show x.1.v = .slice A' nn cap from hv)
    obtain ⟨X0, h0⟩ : ∃ X, x.1.i.o = X := ⟨_, rfl⟩
    obtain ⟨X4, h4⟩ : ∃ X, x.1.i.s = X := ⟨_, rfl⟩
    rw [h0] at c0 l3 l4
    rw [h4] at c4 HKY l1 l2
    have HOP := Lib.hid (show x.1.i.o = X0 from h0)
    have HL1 := Lib.hid l1
    have HL2 := Lib.hid l2
    have HL3 := Lib.hid l3
    have HL4 := Lib.hid l4
    have mc := b1.cell
    have ef := b3.frozen
    have rf := b2.frozen
    have ec := b3.cell
    have rc := b2.cell
    have hne : Bx ≠ W.heap.size := Nat.ne_of_lt bx.lt
    have n1 : w.heap.size + 1 ≠ W.heap.size := Nat.ne_of_lt (Array.getElem?_eq_some_iff.1 b1).1
    have n2 : w.heap.size + 1 + 1 ≠ W.heap.size := Nat.ne_of_lt (Array.getElem?_eq_some_iff.1 b2).1
    have n3 : w.heap.size + 1 + 1 + 1 ≠ W.heap.size := Nat.ne_of_lt (Array.getElem?_eq_some_iff.1 b3).1
    clear l1 l2 l3 l4 hth hxx hv hnn h0 h4 hb b1 b2 b3 bx hr hl hlen hp hkf hsz c1 c2 c3
    cases hh : (X0 == 12 || X0 == 13 || X0 == 14) with
    | false =>
      have HH := Lib.hid (hasName_any X0 W)
      rw [hh] at HH
      have HHB := Lib.hid (show hasB x.1.i.o = false by rw [HOP.out]; exact hh)
      clear hh
      gi_wp2_with (fail)
      refine ⟨trivial, ?_⟩
      refine (CallsIn.inRound l (callsIn_wide.2 HH.out)).mono ?_
      rintro e w1 ⟨rfl, rfl⟩
      gi_wp2_with (fail)
      have e1 : noneI m x.1.i = false := by
        have h := HHB.out
        unfold hasB at h
        unfold noneI
        cases h12 : x.1.i.o == 12 <;> cases h13 : x.1.i.o == 13 <;> cases h14 : x.1.i.o == 14 <;> simp [h12, h13, h14] at h ⊢
      have e2 : oddI m x.1.i = false := by
        have h := HHB.out
        unfold hasB at h
        unfold oddI
        cases h14 : x.1.i.o == 14 <;> simp [h14] at h ⊢
      refine ⟨KeepsFrom.refl _ _, KeepB.below HI.out.2.2.2 (Below.refl _ _), ⟨⟨HI.out.1.1.1, HI.out.1.1.2⟩, ?_⟩, ⟨?_, HI.out.2.1.2⟩, HI.out.2.2⟩
      · rw [HL.out, eOf_snoc, e2]; exact HI.out.1.2
      · rw [HL.out, none_snoc, HI.out.2.1.1, e1]; rfl
    | true =>
      have HH := Lib.hid (hasName_any X0 W)
      rw [hh] at HH
      have HHB := Lib.hid (show hasB X0 = true from hh)
      clear hh
      gi_wp2_with (fail)
      refine ⟨trivial, ?_⟩
      refine (CallsIn.inRound l (callsIn_wide.2 HH.out)).mono ?_
      rintro e w1 ⟨rfl, rfl⟩
      have HNI := Lib.hid (HL3.out HHB.out)
      have HOD := Lib.hid (HL4.out HHB.out)
      cases th with
      | false =>
        have hin := balloc (Below.refl _ W) (.cells #[.bool xb, .int .i64 xp] 107)
        have q0 := (cellNext (HX.out.lt) hin 0).trans c0
        have q5 := (cellNext (HX.out.lt) hin 5).trans c5
        have HB1 := Lib.hid hin
        have HR2 := Lib.hid (boxed_below HI.out.1.1.2 hin)
        have HE2 := Lib.hid (boxed_below HI.out.1.2 hin)
        have zf := HR2.out.frozen
        have zc := HR2.out.cell
        have yf := HE2.out.frozen
        have yc := HE2.out.cell
        clear hin
        gi_wp2_with (gi_at_lookup; refine wpListIn_lookup_th _ rfl _ _ 79 rfl 9 107 skeyed Try.underlying79 (Try.zeroValue107 _) mb mn _ rfl HOW.out _ _ rfl HKY.out _ _ _ HL1.out HL2.out ?_)
        gi_wp2_with (fail)
        refine ⟨(keeps_below _ HB1.out).trans ((KeepsOthers.setCell _ _ _).from _), HR2.out.set _, ⟨⟨rfl, ?_⟩, (HI.out.2.1.2.trans (keeps_below _ HB1.out)).trans ((KeepsOthers.setCell _ _ _).from _)⟩, (bthen HI.out.2.2.1 HB1.out).setCell (p := ⟨w.heap.size + 1 + 1, 0, none⟩) (by simp; omega) _⟩
        rw [HL.out, none_snoc, HNI.out, HI.out.2.1.1]; rfl
      | true =>
        cases xb with
        | false =>
          cases h14 : (X0 == 14) with
          | true =>
            have hin := balloc (Below.refl _ W) (.cells #[.bool false, .int .i64 xp] 107)
            have q0 := (cellNext (HX.out.lt) hin 0).trans c0
            have q5 := (cellNext (HX.out.lt) hin 5).trans c5
            have HB1 := Lib.hid hin
            have HR2 := Lib.hid (boxed_below HI.out.1.1.2 hin)
            have HE2 := Lib.hid (boxed_below HI.out.1.2 hin)
            have zf := HR2.out.frozen
            have zc := HR2.out.cell
            have yf := HE2.out.frozen
            have yc := HE2.out.cell
            clear hin
            gi_wp2_with (gi_at_lookup; refine wpListIn_lookup_th _ rfl _ _ 79 rfl 9 107 skeyed Try.underlying79 (Try.zeroValue107 _) mb mn _ rfl HOW.out _ _ rfl HKY.out _ _ _ HL1.out HL2.out ?_)
            gi_wp2_with (fail)
            refine ⟨(keeps_below _ HB1.out).trans ((KeepsOthers.setCell _ _ _).from _), HR2.out.set _, ⟨⟨rfl, ?_⟩, (HI.out.2.1.2.trans (keeps_below _ HB1.out)).trans ((KeepsOthers.setCell _ _ _).from _)⟩, (bthen HI.out.2.2.1 HB1.out).setCell (p := ⟨w.heap.size + 1 + 1, 0, none⟩) (by simp; omega) _⟩
            rw [HL.out, none_snoc, HNI.out, HI.out.2.1.1]; rw [h14]; rfl
          | false =>
            have HNV := Lib.hid (show noneI m x.1.i = false by rw [HNI.out, h14]; rfl)
            have HODV := Lib.hid (show oddI m x.1.i = false by rw [HOD.out HNV.out]; rfl)
            have hin := balloc (Below.refl _ W) (.cells #[.bool false, .int .i64 xp] 107)
            have q0 := (cellNext (HX.out.lt) hin 0).trans c0
            have q5 := (cellNext (HX.out.lt) hin 5).trans c5
            have HB1 := Lib.hid hin
            have HR2 := Lib.hid (boxed_below HI.out.1.1.2 hin)
            have HE2 := Lib.hid (boxed_below HI.out.1.2 hin)
            have zf := HR2.out.frozen
            have zc := HR2.out.cell
            have yf := HE2.out.frozen
            have yc := HE2.out.cell
            clear hin
            gi_wp2_with (gi_at_lookup; refine wpListIn_lookup_th _ rfl _ _ 79 rfl 9 107 skeyed Try.underlying79 (Try.zeroValue107 _) mb mn _ rfl HOW.out _ _ rfl HKY.out _ _ _ HL1.out HL2.out ?_)
            gi_wp2_with (fail)
            refine ⟨keeps_below _ HB1.out, KeepB.below HI.out.2.2.2 HB1.out, ⟨⟨boxed_below HI.out.1.1.1 HB1.out, boxed_below HI.out.1.1.2 HB1.out⟩, ?_⟩, ⟨?_, HI.out.2.1.2.trans (keeps_below _ HB1.out)⟩, bthen HI.out.2.2.1 HB1.out, Nat.le_trans HI.out.2.2.2 HB1.out.size⟩
            · rw [HL.out, eOf_snoc, HODV.out]; exact boxed_below HI.out.1.2 HB1.out
            · rw [HL.out, none_snoc, HNV.out, HI.out.2.1.1]; rfl
        | true =>
          cases h14 : (X0 == 14) with
          | false =>
            have hin := balloc (Below.refl _ W) (.cells #[.bool true, .int .i64 xp] 107)
            have q0 := (cellNext (HX.out.lt) hin 0).trans c0
            have q5 := (cellNext (HX.out.lt) hin 5).trans c5
            have HB1 := Lib.hid hin
            have HR2 := Lib.hid (boxed_below HI.out.1.1.2 hin)
            have HE2 := Lib.hid (boxed_below HI.out.1.2 hin)
            have zf := HR2.out.frozen
            have zc := HR2.out.cell
            have yf := HE2.out.frozen
            have yc := HE2.out.cell
            clear hin
            gi_wp2_with (gi_at_lookup; refine wpListIn_lookup_th _ rfl _ _ 79 rfl 9 107 skeyed Try.underlying79 (Try.zeroValue107 _) mb mn _ rfl HOW.out _ _ rfl HKY.out _ _ _ HL1.out HL2.out ?_)
            gi_wp2_with (fail)
            refine ⟨(keeps_below _ HB1.out).trans ((KeepsOthers.setCell _ _ _).from _), HR2.out.set _, ⟨⟨rfl, ?_⟩, (HI.out.2.1.2.trans (keeps_below _ HB1.out)).trans ((KeepsOthers.setCell _ _ _).from _)⟩, (bthen HI.out.2.2.1 HB1.out).setCell (p := ⟨w.heap.size + 1 + 1, 0, none⟩) (by simp; omega) _⟩
            rw [HL.out, none_snoc, HNI.out, HI.out.2.1.1]; rw [h14]; rfl
          | true =>
            have HNV := Lib.hid (show noneI m x.1.i = false by rw [HNI.out, h14]; rfl)
            cases hq : (xp == (nn : Int)) with
            | true =>
              have HODV := Lib.hid (show oddI m x.1.i = false by rw [HOD.out HNV.out]; simp [bne, hq])
              have hin := balloc (Below.refl _ W) (.cells #[.bool true, .int .i64 xp] 107)
              have q0 := (cellNext (HX.out.lt) hin 0).trans c0
              have q5 := (cellNext (HX.out.lt) hin 5).trans c5
              have HB1 := Lib.hid hin
              have HR2 := Lib.hid (boxed_below HI.out.1.1.2 hin)
              have HE2 := Lib.hid (boxed_below HI.out.1.2 hin)
              have zf := HR2.out.frozen
              have zc := HR2.out.cell
              have yf := HE2.out.frozen
              have yc := HE2.out.cell
              clear hin
              gi_wp2_with (gi_at_lookup; refine wpListIn_lookup_th _ rfl _ _ 79 rfl 9 107 skeyed Try.underlying79 (Try.zeroValue107 _) mb mn _ rfl HOW.out _ _ rfl HKY.out _ _ _ HL1.out HL2.out ?_)
              gi_wp2_with (fail)
              refine ⟨keeps_below _ HB1.out, KeepB.below HI.out.2.2.2 HB1.out, ⟨⟨boxed_below HI.out.1.1.1 HB1.out, boxed_below HI.out.1.1.2 HB1.out⟩, ?_⟩, ⟨?_, HI.out.2.1.2.trans (keeps_below _ HB1.out)⟩, bthen HI.out.2.2.1 HB1.out, Nat.le_trans HI.out.2.2.2 HB1.out.size⟩
              · rw [HL.out, eOf_snoc, HODV.out]; exact boxed_below HI.out.1.2 HB1.out
              · rw [HL.out, none_snoc, HNV.out, HI.out.2.1.1]; rfl
            | false =>
              have HODV := Lib.hid (show oddI m x.1.i = true by rw [HOD.out HNV.out]; simp [bne, hq])
              have hin := balloc (Below.refl _ W) (.cells #[.bool true, .int .i64 xp] 107)
              have q0 := (cellNext (HX.out.lt) hin 0).trans c0
              have q5 := (cellNext (HX.out.lt) hin 5).trans c5
              have HB1 := Lib.hid hin
              have HR2 := Lib.hid (boxed_below HI.out.1.1.2 hin)
              have HE2 := Lib.hid (boxed_below HI.out.1.2 hin)
              have zf := HR2.out.frozen
              have zc := HR2.out.cell
              have yf := HE2.out.frozen
              have yc := HE2.out.cell
              clear hin
              gi_wp2_with (gi_at_lookup; refine wpListIn_lookup_th _ rfl _ _ 79 rfl 9 107 skeyed Try.underlying79 (Try.zeroValue107 _) mb mn _ rfl HOW.out _ _ rfl HKY.out _ _ _ HL1.out HL2.out ?_)
              gi_wp2_with (fail)
              have HK2 := Lib.hid (KeepB.below HI.out.2.2.2 HB1.out)
              refine ⟨(keeps_below _ HB1.out).trans ((KeepsOthers.setCell _ _ _).from _), HK2.out.trans (KeepB.grown (grownBy_setCell' _ _ _) (Nat.le_trans HI.out.2.2.2 HB1.out.size) (fun r e => by cases e; exact ⟨by omega, fun cs t f ht hr => by rw [show _ = _ from HE2.out] at hr; cases hr; rcases ht with h | h <;> cases h⟩)), ⟨⟨?_, ?_⟩, ?_⟩, ⟨?_, (HI.out.2.1.2.trans (keeps_below _ HB1.out)).trans ((KeepsOthers.setCell _ _ _).from _)⟩, (bthen HI.out.2.2.1 HB1.out).setCell (p := ⟨w.heap.size + 1 + 1 + 1, 0, none⟩) (by simp; omega) _, Nat.le_trans HI.out.2.2.2 (Nat.le_trans HB1.out.size (by simp [World.setCell]))⟩
              · exact (boxed_below HI.out.1.1.1 HB1.out).other (B' := w.heap.size + 1 + 1 + 1) (by omega) _
              · exact (boxed_below HI.out.1.1.2 HB1.out).other (B' := w.heap.size + 1 + 1 + 1) (by omega) _
              · rw [HL.out, eOf_snoc, HODV.out]; exact HE2.out.set _
              · rw [HL.out, none_snoc, HNV.out, HI.out.2.1.1]; rfl
  case done =>
    rintro D ys W hD hys ⟨⟨⟨b1, b2⟩, b3⟩, ⟨hp, hkf⟩, hb, hsz⟩ hK
    have HBS := Lib.hid (show Boxed W (w.heap.size + 1) 79 (.map (some mb)) ∧ Boxed W (w.heap.size + 1 + 1) 27 (.int .i64 0) ∧ Boxed W (w.heap.size + 1 + 1 + 1) 27 (.int .i64 (eOf m (insT m (k + 1)))) from ⟨b1, b2, by
      rw [HSUC.out, ← HINS.out, ← hys, List.map_map]; exact b3⟩)
    have HPN := Lib.hid (show (insT m (k + 1)).any (noneI m) = false by rw [HSUC.out, ← HINS.out, ← hys, List.map_map]; exact hp)
    have HMK2 := Lib.hid (show Marks w.heap.size W ({ target := .collected D, args := #[] } :: ds) from ⟨⟨D, rfl, Nat.le_trans hB1.size hD, hK, fun d' hd' e => by
        obtain ⟨D', e', h'⟩ := HMK1.out.lt d' hd'
        rw [e'] at e; cases e; omega⟩, HMK1.out.kept fun D' _ h => hkf.same D' _ (Nat.zero_le _) h rfl⟩)
    have HB2 := Lib.hid hb
    clear b1 b2 b3 hp hkf hb hsz hys
    gi_wp2_with (fail)
    refine ⟨?_, ?measure⟩
    · refine ⟨_, _, _, _, _, _, _, _, _, _, _, _, _, _, _, _, _, _, _, _, _, _, _, _, _, _, _, _, _, _, _, _, _, _, _, _, _, _, _, _, _, _, _, _, _, _, _, ?rel, rfl⟩
      case rel => exact ⟨k + 1, HLT.out, by go_num, HPN.out, HBS.out.1, HBS.out.2.1, HBS.out.2.2, HMK2.out, HB2.out⟩
    case measure => have := HLT.out; simp [intOf]; omega
  case stop =>
    rintro D c pre W hD hpre ⟨b3, ⟨⟨rfl, hp⟩, hkf⟩, hb⟩ hK
    have HMK2 := Lib.hid (show Marks w.heap.size W ({ target := .collected D, args := #[] } :: ds) from ⟨⟨D, rfl, Nat.le_trans hB1.size hD, hK, fun d' hd' e => by
        obtain ⟨D', e', h'⟩ := HMK1.out.lt d' hd'
        rw [e'] at e; cases e; omega⟩, HMK1.out.kept fun D' _ h => hkf.same D' _ (Nat.zero_le _) h rfl⟩)
    have HV := Lib.hid (show foundE m = 8 from found_none (L := insT m k ++ pre.map (fun x => x.1.i)) (List.IsPrefix.trans (by
      rw [HSUC.out, ← HINS.out, List.prefix_append_right_inj]
      have h := hpre.map (fun x : It => x.i)
      rwa [List.map_map] at h) HPRE.out) hp)
    gi_wp2_with (fail)
    refine leaves_marks _ _ HMK2.out hb.size (fun W' hb' hk' => ?_)
    have hc := (show Boxed W' (w.heap.size + 1 + 1) 27 (.int .i64 8) from hk' _ _ _ _ b3).cell
    refine ⟨.int .i64 8, ?_, by rw [HV.out], hb.trans hb'⟩
    simp [results, Try.f31, go_sem, hc]
end Go.Proofs.Ytjldddpchiaalaa
namespace Go.Proofs.Ytjldddpchiaalaa
open Go.RowKit Go.Shelf
attribute [local go_sem] Oper.semAt_some
def strRow (l : List ByteArray) : List Value := l.map Value.string
/-- a row of strings that a call owns -/
def OwnsN (W : World) (base : Nat) (v : Value) (l : List ByteArray) : Prop := W.ownsRow base 9 1 v l.length (strRow l)
def Strs : World → Value → List ByteArray → Prop := RowOf 1 (fun W b off x => W.cell? ⟨b, off, none⟩ = some (.string x))
theorem Strs.next {W W' : World} {v : Value} {l : List ByteArray} (h : Strs W v l) (hb : Below W.heap.size W W') : Strs W' v l := RowOf.next (P := fun W b off x => W.cell? ⟨b, off, none⟩ = some (.string x)) (fun _ _ _ _ _ hbl hb hx => (cellNext hbl hb _).trans hx) h hb
theorem OwnsN.strs {W : World} {base : Nat} {v : Value} {l : List ByteArray} (h : OwnsN W base v l) : Strs W v l := by
  have h' : W.ownsRow base 9 1 v l.length (strRow l) := h
  by_cases hl : 0 < l.length
  · obtain ⟨g, cap, e, hg, hlt⟩ := h'.form hl
    subst e
    refine .inr ⟨hl, g, 0, cap, rfl, hlt, fun i hi => ?_⟩
    have := h'.cellAt i (by rw [Nat.mul_one]; exact hi)
    rw [Nat.zero_add, Nat.mul_one]
    show W.cell? ⟨g, i, none⟩ = _
    rw [this]
    simp [strRow, hi]
  · have hl0 : l = [] := by cases l <;> simp_all
    subst hl0
    rcases h'.2 with ⟨rfl, _⟩ | ⟨g, cap, cur, rfl, _⟩
    · exact .inl ⟨rfl, .inl rfl⟩
    · exact .inl ⟨rfl, .inr ⟨_, _, rfl⟩⟩
theorem str_info : (Try.prog.info? 9).map (fun i => (i.zero, i.size, i.bytes)) = some (some (.string ⟨#[]⟩), 1, 16) := by kernel_rfl
theorem ownsN_kept {W W' : World} {base : Nat} {v : Value} {l : List ByteArray} {row : Option Nat} (h : OwnsN W base v l) (hg : W.grownBy W' row) (hne : v.ownBlock = none ∨ v.ownBlock ≠ row) : OwnsN W' base v l :=
  World.ownsRow.kept (show W.ownsRow base 9 1 v l.length (strRow l) from h) hg hne
theorem OwnsN.form {W : World} {base : Nat} {v : Value} {l : List ByteArray} (h : OwnsN W base v l) : ∃ A cap, v = .slice A l.length cap := by
  have h' : W.ownsRow base 9 1 v l.length (strRow l) := h
  rcases h'.2 with ⟨rfl, h0⟩ | ⟨g, cap, cur, rfl, _⟩
  · have : l = [] := by
      cases l with
      | nil => rfl
      | cons x l => simp at h0
    subst this
    exact ⟨_, _, rfl⟩
  · exact ⟨_, _, rfl⟩
theorem OwnsN.block {W : World} {base : Nat} {v : Value} {l : List ByteArray} (h : OwnsN W base v l) : ∀ r, v.ownBlock = some r → base ≤ r ∧ ∃ cs, W.heap[r]? = some (.cells cs 9 (0, 0)) := by
  have h' : W.ownsRow base 9 1 v l.length (strRow l) := h
  intro r e
  rcases h'.2 with ⟨rfl, _⟩ | ⟨g, cap, cur, rfl, hb, hg, _⟩
  · cases e
  · obtain rfl : g = r := by simpa [Value.ownBlock] using e
    exact ⟨hb, _, hg⟩
/-- what Refs answers -/
def NewNames (l : List ByteArray) (w : World) (e : Ending) (w' : World) : Prop := ∃ v', e = .returned v' ∧ Strs w' v' l ∧ Below w.heap.size w w'
end Go.Proofs.Ytjldddpchiaalaa
namespace Go.Proofs.Ytjldddpchiaalaa
open Go.RowKit
set_option maxRecDepth 100000 in
set_option maxHeartbeats 4000000 in
theorem check_any (m : Md) (F G : Option Addr) (nf cf ng cg : Nat) (w : World) (hok : MdOk m) (hnf : m.f.length = nf) (hng : m.g.length = ng) (hS : MdAt w (.slice F nf cf) (.slice G ng cg) m) :
    Calls Try.prog 14 #[.agg #[.slice F nf cf, .slice G ng cg]] w fun e w' => e = .returned (.int .i64 (checkE m)) ∧ Below w.heap.size w w' := by
  have HS := Lib.hid hS
  have HOK := Lib.hid hok
  have HNF := Lib.hid hnf
  have HNG := Lib.hid hng
  have HE := Lib.hid (show checkE m = if 16 < nf ∨ 16 < ng then 4 else if aloneB m = false then 10 else if ¬ (namesM m).Nodup then 9 else foundE m by unfold checkE; rw [hnf, hng])
  have HB := Lib.hid (balloc (Below.refl _ w) (.cells #[.slice F nf cf, .slice G ng cg] 25))
  have HIN := Lib.hid (heap_alloc_new w (.cells #[.slice F nf cf, .slice G ng cg] 25))
  have f9 : (nf : Int) ≤ 9223372036854775807 := by have := hok.2.2.1; omega
  have g9 : (ng : Int) ≤ 9223372036854775807 := by have := hok.2.2.2; omega
  clear hS hok hnf hng
  go_enter Try.func14, Try.ntmps14
  by_cases h1 : 16 < nf
  · have t1 : decide ((16 : Int) < (nf : Int)) = true := decide_eq_true (by omega)
    have HV := Lib.hid (show checkE m = 4 by rw [HE.out, if_pos (.inl h1)])
    go_wp2_with fail
    go_ret
    exact ⟨by rw [HV.out]; rfl, HB.out⟩
  have t1 : decide ((16 : Int) < (nf : Int)) = false := decide_eq_false (by omega)
  by_cases h2 : 16 < ng
  · have t2 : decide ((16 : Int) < (ng : Int)) = true := decide_eq_true (by omega)
    have HV := Lib.hid (show checkE m = 4 by rw [HE.out, if_pos (.inr h2)])
    go_wp2_with fail
    go_ret
    exact ⟨by rw [HV.out]; rfl, HB.out⟩
  have t2 : decide ((16 : Int) < (ng : Int)) = false := decide_eq_false (by omega)
  have HE := Lib.hid (show checkE m = if aloneB m = false then 10 else if ¬ (namesM m).Nodup then 9 else foundE m by rw [HE.out, if_neg (by omega)])
  have HL := Lib.hid (show nf ≤ 1000000 ∧ ng ≤ 1000000 by omega)
  clear h1 h2
  go_wp2_with fail
  have HR := Lib.hid (rightAlone_any m F G nf cf ng cg (w.alloc (.cells #[.slice F nf cf, .slice G ng cg] 25)) HOK.out HNF.out HNG.out (HS.out.next HB.out))
  generalize w.alloc (.cells #[.slice F nf cf, .slice G ng cg] 25) = W1 at *
  refine HR.out.mono ?_
  rintro r w2 ⟨rfl, hb⟩
  have HB2 := Lib.hid (bthen HB.out hb)
  have hin2 := (hb.block _ (Array.getElem?_eq_some_iff.1 HIN.out).1).trans HIN.out
  have c0 := Lib.cell_of_heap hin2 0
  have c1 := Lib.cell_of_heap hin2 1
  simp only [List.getElem?_toArray, List.getElem?_cons_zero, List.getElem?_cons_succ] at c0 c1
  have HIN2 := Lib.hid hin2
  clear hb hin2
  cases ha : aloneB m with
  | false =>
    have HV := Lib.hid (show checkE m = 10 by rw [HE.out, if_pos ha])
    go_wp2_with fail
    go_ret
    exact ⟨by rw [HV.out]; rfl, HB2.out⟩
  | true =>
    have HE := Lib.hid (show checkE m = if ¬ (namesM m).Nodup then 9 else foundE m by rw [HE.out, ha]; rfl)
    clear ha
    go_wp2_with fail
    refine (named_any m F G nf cf ng cg w2 HOK.out HNF.out HNG.out HL.out.1 HL.out.2 (HS.out.next HB2.out)).mono ?_
    rintro r w3 ⟨hb, ⟨hn, mb, mn, rfl, hmb, hM⟩ | ⟨hn, rfl⟩⟩
    · have HE := Lib.hid (show checkE m = foundE m by rw [HE.out, if_neg (fun h => h hn)])
      have HB3 := Lib.hid (bthen HB2.out hb)
      have hin3 := (hb.block _ (Array.getElem?_eq_some_iff.1 HIN2.out).1).trans HIN2.out
      have d0 := Lib.cell_of_heap hin3 0
      have d1 := Lib.cell_of_heap hin3 1
      simp only [List.getElem?_toArray, List.getElem?_cons_zero, List.getElem?_cons_succ] at d0 d1
      have HM := Lib.hid hM
      have HN := Lib.hid hn
      clear hb hin3 hM hn c0 c1
      go_wp2_with fail
      refine (found_any m F G nf cf ng cg mb mn w3 HOK.out HNF.out HN.out (HS.out.next HB3.out) HM.out).mono ?_
      rintro r w4 ⟨rfl, hb⟩
      have HB4 := Lib.hid (bthen HB3.out hb)
      clear hb d0 d1
      go_wp2_with fail
      go_ret
      exact ⟨by rw [HE.out]; rfl, HB4.out⟩
    · have HE := Lib.hid (show checkE m = 9 by rw [HE.out, if_pos hn])
      have HB3 := Lib.hid (bthen HB2.out hb)
      clear hb c0 c1
      go_wp2_with fail
      go_ret
      exact ⟨by rw [HE.out]; rfl, HB3.out⟩
end Go.Proofs.Ytjldddpchiaalaa
namespace Go.Proofs.Ytjldddpchiaalaa
open Go.RowKit
theorem below_drewN {n : Nat} {w W : World} (h : Below n w W) (k : Nat) : Below n w (W.drewN k) := below_re h rfl rfl rfl rfl
end Go.Proofs.Ytjldddpchiaalaa
namespace Go.Proofs.Ytjldddpchiaalaa
open Go.ChangeShapes Go.WideShapes Go.ChangeAt Go.RowKit Go.Deep Go.Joins
theorem cellsInt : Try.prog.cellsOf 3 = 1 := by kernel_rfl
theorem cellsInst : Try.prog.cellsOf 76 = 6 := by kernel_rfl
theorem cellsTerm : Try.prog.cellsOf 72 = 6 := by kernel_rfl
theorem cellsBlock : Try.prog.cellsOf 74 = 8 := by kernel_rfl
theorem cellsFunc : Try.prog.cellsOf 60 = 4 := by kernel_rfl
theorem cellsGlob : Try.prog.cellsOf 62 = 4 := by kernel_rfl
theorem cellsModule : Try.prog.cellsOf 25 = 2 := by kernel_rfl
theorem cellsInsts : Try.prog.cellsOf 69 = 1 := by kernel_rfl
theorem maxLen_is : maxLen = 9223372036854775807 := rfl
section
variable {H : Type} {enc : TypeId × Value → H} {W : World} {base : Nat} {spare : Nat → Bool} {held : Bool}
theorem open_ints {c : Value} {fuel : Nat} {y : DataW H × List MemPlace} (h : DataW.trod enc Try.prog W base spare held fuel 70 [c] = some y) :
    ∃ (A : Option Addr) (cap : Nat) (l : List Int), c = .slice A l.length cap ∧ Ints W c l ∧ l.length ≤ 9223372036854775807 := by
  obtain ⟨A, cap, l, rfl, hr, -, h1, h2⟩ := open_row (α := Int) (sz := 1) (fun W b off x => W.cell? ⟨b, off, none⟩ = some (.int .i64 x)) (fun _ => True) Try.underlying70 cellsInt (by omega) (fun n b off cs y hc hl ht => by
    match cs, hl with
    | [c], _ =>
      obtain ⟨x, e, -, -⟩ := DataW.trod_int Try.underlying3 ht
      simp only [List.cons.injEq, and_true] at e
      subst e
      exact ⟨x, trivial, by simpa using hc 0 (by omega)⟩) h
  refine ⟨A, cap, l, rfl, ?_, by rw [maxLen_is] at h2; omega⟩
  rcases hr with hr | ⟨h0, b, off, c, e, hb, hat⟩
  · exact .inl hr
  · exact .inr ⟨h0, b, off, c, e, hb, fun i hi => by simpa using hat i hi⟩
end
end Go.Proofs.Ytjldddpchiaalaa
namespace Go.Proofs.Ytjldddpchiaalaa
open Go.RowKit
def fIdx (l : List ByteArray) (s : ByteArray) : Option Nat := l.findIdx? (fun x => x == s)
def idxE : Option Nat → Int
  | some i => i
  | none => -1
theorem fIdx_some {l : List ByteArray} {s : ByteArray} {i : Nat} (hi : i < l.length) (h : (l[i] == s) = true) (hb : ∀ j (hj : j < i), (l[j]'(by omega) == s) = false) : fIdx l s = some i :=
  List.findIdx?_eq_some_iff_getElem.2 ⟨hi, h, fun j hj => by simp [hb j hj]⟩
theorem fIdx_none {l : List ByteArray} {s : ByteArray} (h : ∀ j (hj : j < l.length), (l[j] == s) = false) : fIdx l s = none :=
  List.findIdx?_eq_none_iff.2 fun x hx => by
    obtain ⟨j, hj, rfl⟩ := List.getElem_of_mem hx
    exact h j hj
theorem fIdx_mem {l : List ByteArray} {s : ByteArray} (h : s ∈ l) : ∃ i, fIdx l s = some i := by
  cases e : fIdx l s with
  | some i => exact ⟨i, rfl⟩
  | none =>
    have := List.findIdx?_eq_none_iff.1 e s h
    rw [jba_refl] at this
    cases this
set_option maxRecDepth 100000 in
set_option maxHeartbeats 2000000 in
theorem findFunc_any (m : Md) (F G : Option Addr) (nf cf ng cg : Nat) (s : ByteArray) (w : World) (hok : MdOk m) (hnf : m.f.length = nf) (hS : MdAt w (.slice F nf cf) (.slice G ng cg) m) :
    Calls Try.prog 27 #[.agg #[.slice F nf cf, .slice G ng cg], .string s] w fun e w' => e = .returned (.int .i64 (idxE (fIdx (m.f.map (·.s)) s))) ∧ Below w.heap.size w w' := by
  have HS := Lib.hid hS
  have HNF := Lib.hid (show m.f.length ≤ nf ∧ nf ≤ m.f.length by omega)
  have f9 : (nf : Int) ≤ 9223372036854775807 := by have := hok.2.2.1; omega
  clear hS hok hnf
  go_enter Try.func27, Try.ntmps27
  go_wp2_with fail
  have HIN := Lib.hid (heap_alloc_new w (.cells #[.slice F nf cf, .slice G ng cg] 25))
  have HBW := Lib.hid (balloc (Below.refl _ w) (.cells #[.slice F nf cf, .slice G ng cg] 25))
  generalize w.alloc (.cells #[.slice F nf cf, .slice G ng cg] 25) = W0 at *
  have c0 := Lib.cell_of_heap HIN.out 0
  simp only [List.getElem?_toArray, List.getElem?_cons_zero] at c0
  go_loopw [5] (fun iv wr => ∃ i : Nat, i ≤ nf ∧ iv = .int .i64 i ∧ (∀ j (hj : j < m.f.length), j < i → (m.f[j].s == s) = false) ∧ W0 = wr) (fun iv _ => nf - (intOf iv).toNat)
  case atStart => exact ⟨0, Nat.zero_le _, rfl, fun j _ h => by omega, rfl⟩
  case round =>
    obtain ⟨i, hi, rfl, hs, rfl⟩ := hrel
    have HT := Lib.hid hs
    clear hs
    by_cases hlt : i < nf
    · have hm : i < m.f.length := by have := HNF.out; omega
      obtain ⟨b, off, hA, hbl, e0⟩ := RowOf.at_ HS.out.1 hm
      subst hA
      obtain ⟨c4, -⟩ := FnAt.next _ _ _ _ _ hbl HBW.out e0
      have HMI := Lib.hid (show (m.f[i].s == s) = true → fIdx (m.f.map (·.s)) s = some i from fun h => fIdx_some (by simpa using hm) (by simpa using h) (fun j hj => by simpa using HT.out j (by omega) hj))
      have HNX := Lib.hid (show (m.f[i].s == s) = false → ∀ j (hj : j < m.f.length), j < i + 1 → (m.f[j].s == s) = false from fun h j hj hji => by
        by_cases e : j = i
        · subst e; exact h
        · exact HT.out j hj (by omega))
      obtain ⟨x, hx⟩ : ∃ x, m.f[i].s = x := ⟨_, rfl⟩
      rw [hx] at c4 HMI HNX
      have hk0 : (0 : Int) ≤ (i : Int) := Int.natCast_nonneg _
      have hk1 : (i : Int) < (nf : Int) := by omega
      have HLT := Lib.hid hlt
      clear hx hm hlt e0
      cases hq : x == s with
      | true =>
        have h1 : (x.toList == s.toList) = true := by rw [← beq_toListBytes]; exact hq
        have HV := Lib.hid (HMI.out hq)
        clear hq
        go_wp2_with fail
        go_ret
        exact ⟨by rw [HV.out]; rfl, HBW.out⟩
      | false =>
        have h1 : (x.toList == s.toList) = false := by rw [← beq_toListBytes]; exact hq
        have HV := Lib.hid (HNX.out hq)
        clear hq
        go_wp2_with fail
        go_roundw
        case rel => exact ⟨i + 1, HLT.out, by go_num, HV.out, trivial⟩
        case measure => have := HLT.out; simp [intOf]; omega
    · have hd : decide ((i : Int) < (nf : Int)) = false := by simp; omega
      have HV := Lib.hid (show fIdx (m.f.map (·.s)) s = none from fIdx_none fun j hj => by
        have hj' : j < m.f.length := by simpa using hj
        simpa using HT.out j hj' (by have := HNF.out; omega))
      go_wp2_with fail
      go_ret
      exact ⟨by rw [HV.out]; rfl, HBW.out⟩
set_option maxRecDepth 100000 in
set_option maxHeartbeats 2000000 in
theorem findGlob_any (m : Md) (F G : Option Addr) (nf cf ng cg : Nat) (s : ByteArray) (w : World) (hok : MdOk m) (hng : m.g.length = ng) (hS : MdAt w (.slice F nf cf) (.slice G ng cg) m) :
    Calls Try.prog 28 #[.agg #[.slice F nf cf, .slice G ng cg], .string s] w fun e w' => e = .returned (.int .i64 (idxE (fIdx (m.g.map (·.s)) s))) ∧ Below w.heap.size w w' := by
  have HS := Lib.hid hS
  have HNF := Lib.hid (show m.g.length ≤ ng ∧ ng ≤ m.g.length by omega)
  have f9 : (ng : Int) ≤ 9223372036854775807 := by have := hok.2.2.2; omega
  clear hS hok hng
  go_enter Try.func28, Try.ntmps28
  go_wp2_with fail
  have HIN := Lib.hid (heap_alloc_new w (.cells #[.slice F nf cf, .slice G ng cg] 25))
  have HBW := Lib.hid (balloc (Below.refl _ w) (.cells #[.slice F nf cf, .slice G ng cg] 25))
  generalize w.alloc (.cells #[.slice F nf cf, .slice G ng cg] 25) = W0 at *
  have c0 := Lib.cell_of_heap HIN.out 1
  simp only [List.getElem?_toArray, List.getElem?_cons_zero, List.getElem?_cons_succ] at c0
  go_loopw [5] (fun iv wr => ∃ i : Nat, i ≤ ng ∧ iv = .int .i64 i ∧ (∀ j (hj : j < m.g.length), j < i → (m.g[j].s == s) = false) ∧ W0 = wr) (fun iv _ => ng - (intOf iv).toNat)
  case atStart => exact ⟨0, Nat.zero_le _, rfl, fun j _ h => by omega, rfl⟩
  case round =>
    obtain ⟨i, hi, rfl, hs, rfl⟩ := hrel
    have HT := Lib.hid hs
    clear hs
    by_cases hlt : i < ng
    · have hm : i < m.g.length := by have := HNF.out; omega
      obtain ⟨b, off, hA, hbl, e0⟩ := RowOf.at_ HS.out.2 hm
      subst hA
      obtain ⟨c4, -⟩ := GlAt.next _ _ _ _ _ hbl HBW.out e0
      have HMI := Lib.hid (show (m.g[i].s == s) = true → fIdx (m.g.map (·.s)) s = some i from fun h => fIdx_some (by simpa using hm) (by simpa using h) (fun j hj => by simpa using HT.out j (by omega) hj))
      have HNX := Lib.hid (show (m.g[i].s == s) = false → ∀ j (hj : j < m.g.length), j < i + 1 → (m.g[j].s == s) = false from fun h j hj hji => by
        by_cases e : j = i
        · subst e; exact h
        · exact HT.out j hj (by omega))
      obtain ⟨x, hx⟩ : ∃ x, m.g[i].s = x := ⟨_, rfl⟩
      rw [hx] at c4 HMI HNX
      have hk0 : (0 : Int) ≤ (i : Int) := Int.natCast_nonneg _
      have hk1 : (i : Int) < (ng : Int) := by omega
      have HLT := Lib.hid hlt
      clear hx hm hlt e0
      cases hq : x == s with
      | true =>
        have h1 : (x.toList == s.toList) = true := by rw [← beq_toListBytes]; exact hq
        have HV := Lib.hid (HMI.out hq)
        clear hq
        go_wp2_with fail
        go_ret
        exact ⟨by rw [HV.out]; rfl, HBW.out⟩
      | false =>
        have h1 : (x.toList == s.toList) = false := by rw [← beq_toListBytes]; exact hq
        have HV := Lib.hid (HNX.out hq)
        clear hq
        go_wp2_with fail
        go_roundw
        case rel => exact ⟨i + 1, HLT.out, by go_num, HV.out, trivial⟩
        case measure => have := HLT.out; simp [intOf]; omega
    · have hd : decide ((i : Int) < (ng : Int)) = false := by simp; omega
      have HV := Lib.hid (show fIdx (m.g.map (·.s)) s = none from fIdx_none fun j hj => by
        have hj' : j < m.g.length := by simpa using hj
        simpa using HT.out j hj' (by have := HNF.out; omega))
      go_wp2_with fail
      go_ret
      exact ⟨by rw [HV.out]; rfl, HBW.out⟩
theorem check_parts {m : Md} (h : checkE m = 0) : m.f.length ≤ 16 ∧ m.g.length ≤ 16 ∧ aloneB m = true ∧ (namesM m).Nodup ∧ (insM m).any (noneI m) = false ∧ (insM m).any (oddI m) = false := by
  unfold checkE at h
  by_cases h1 : 16 < m.f.length ∨ 16 < m.g.length
  · rw [if_pos h1] at h; cases h
  rw [if_neg h1] at h
  cases h2 : aloneB m with
  | false => rw [if_pos h2] at h; cases h
  | true =>
    rw [if_neg (by simp [h2])] at h
    by_cases h3 : (namesM m).Nodup
    · rw [if_neg (fun n => n h3)] at h
      unfold foundE at h
      cases h4 : (insM m).any (noneI m) with
      | true => rw [if_pos h4] at h; cases h
      | false =>
        rw [if_neg (by simp [h4])] at h
        cases h5 : (insM m).any (oddI m) with
        | true => rw [if_pos h5] at h; cases h
        | false => exact ⟨by omega, by omega, rfl, h3, rfl, rfl⟩
    · rw [if_pos h3] at h; cases h
theorem check_of {m : Md} (h1 : m.f.length ≤ 16) (h2 : m.g.length ≤ 16) (h3 : aloneB m = true) (h4 : (namesM m).Nodup) (h5 : (insM m).any (noneI m) = false) (h6 : (insM m).any (oddI m) = false) : checkE m = 0 := by
  unfold checkE foundE
  rw [if_neg (by omega), if_neg (by simp [h3]), if_neg (fun n => n h4), if_neg (by simp [h5]), if_neg (by simp [h6])]
end Go.Proofs.Ytjldddpchiaalaa
namespace Go.Proofs.Ytjldddpchiaalaa
open Go.RowKit
/-- the cells of a row of functions -/
def RowCells (w : World) (k : List Fn) (ys : List Value) : Prop :=
  ys.length = k.length * 4 ∧ ∀ (i : Nat) (h : i < k.length), ∃ A cap, ys[i * 4]? = some (.string k[i].s) ∧ ys[i * 4 + 1]? = some (.int .i64 k[i].b) ∧ ys[i * 4 + 2]? = some (.int .i64 k[i].p) ∧ ys[i * 4 + 3]? = some (.slice A k[i].l.length cap) ∧ Blocks w (.slice A k[i].l.length cap) k[i].l
theorem RowCells.next {w w' : World} {k : List Fn} {ys : List Value} (h : RowCells w k ys) (hb : Below w.heap.size w w') : RowCells w' k ys :=
  ⟨h.1, fun i hi => by obtain ⟨A, c, h0, h1, h2, h3, h4⟩ := h.2 i hi; exact ⟨A, c, h0, h1, h2, h3, h4.next hb⟩⟩
theorem RowCells.append {w : World} {k1 k2 : List Fn} {y1 y2 : List Value} (h1 : RowCells w k1 y1) (h2 : RowCells w k2 y2) : RowCells w (k1 ++ k2) (y1 ++ y2) := by
  refine ⟨by rw [List.length_append, List.length_append, h1.1, h2.1]; omega, fun i hi => ?_⟩
  rw [List.length_append] at hi
  by_cases h : i < k1.length
  · obtain ⟨A, c, g0, g1, g2, g3, g4⟩ := h1.2 i h
    have e := h1.1
    rw [List.getElem_append_left h, List.getElem?_append_left (by omega), List.getElem?_append_left (by omega), List.getElem?_append_left (by omega), List.getElem?_append_left (by omega)]
    exact ⟨A, c, g0, g1, g2, g3, g4⟩
  · obtain ⟨A, c, g0, g1, g2, g3, g4⟩ := h2.2 (i - k1.length) (by omega)
    have e := h1.1
    rw [List.getElem_append_right (by omega), List.getElem?_append_right (by omega), List.getElem?_append_right (by omega), List.getElem?_append_right (by omega), List.getElem?_append_right (by omega)]
    have q : ∀ j, i * 4 + j - y1.length = (i - k1.length) * 4 + j := fun j => by omega
    have q0 : i * 4 - y1.length = (i - k1.length) * 4 := by omega
    rw [q0, q, q, q]
    exact ⟨A, c, g0, g1, g2, g3, g4⟩
theorem RowCells.funcs {w : World} {base n : Nat} {v : Value} {k : List Fn} {ys : List Value} (ho : w.ownsRow base 60 4 v n ys) (hn : n = k.length) (h : RowCells w k ys) : Funcs w v k := by
  subst hn
  by_cases hl : 0 < k.length
  · obtain ⟨g, cap, e, hg, hlt⟩ := ho.form hl
    subst e
    refine .inr ⟨hl, g, 0, cap, rfl, hlt, fun i hi => ?_⟩
    obtain ⟨A, c, g0, g1, g2, g3, g4⟩ := h.2 i hi
    rw [Nat.zero_add]
    exact ⟨(ho.cellAt (i * 4) (by omega)).trans g0, (ho.cellAt (i * 4 + 1) (by omega)).trans g1, (ho.cellAt (i * 4 + 2) (by omega)).trans g2, A, c, (ho.cellAt (i * 4 + 3) (by omega)).trans g3, g4⟩
  · have hl0 : k = [] := by cases k <;> simp_all
    subst hl0
    rcases ho.2 with ⟨rfl, _⟩ | ⟨g, cap, cur, rfl, _⟩
    · exact .inl ⟨rfl, .inl rfl⟩
    · exact .inl ⟨rfl, .inr ⟨_, _, rfl⟩⟩
end Go.Proofs.Ytjldddpchiaalaa
namespace Go.Proofs.Ytjldddpchiaalaa
open Go.RowKit
set_option maxRecDepth 100000 in
set_option maxHeartbeats 1000000 in
theorem refBelow_any (k : Int) (l : List Int) (A : Option Addr) (n cap : Nat) (w : World) (hS : Ints w (.slice A n cap) l) (hn : n ≤ 9223372036854775807) :
    Calls Try.prog 79 #[.slice A n cap, .int .i64 k] w fun e w' => e = .returned (.bool (amongB k l)) ∧ Below w.heap.size w w' := by
  have HN := Lib.hid (show l.length ≤ n ∧ n ≤ l.length by have := hS.len; omega)
  have HS := Lib.hid hS
  have n1 : (n : Int) ≤ 9223372036854775807 := by omega
  clear hS hn
  go_enter Try.func79, Try.ntmps79
  go_wp2_with fail
  go_loopw [5] (fun iv wr => ∃ i : Nat, i ≤ n ∧ iv = .int .i64 i ∧ amongB k (l.take i) = true ∧ w = wr) (fun iv _ => n - (intOf iv).toNat)
  case atStart => exact ⟨0, Nat.zero_le _, rfl, rfl, rfl⟩
  case round =>
    obtain ⟨i, hi, rfl, hs, rfl⟩ := hrel
    have HT := Lib.hid hs
    clear hs
    by_cases hlt : i < n
    · have hm : i < l.length := by have := HN.out; omega
      obtain ⟨b, off, hA, e0⟩ := HS.out.at_ hm
      subst hA
      have HNX := Lib.hid (show amongB k (l.take (i + 1)) = (decide (0 ≤ l[i]) && decide (l[i] < k)) by
        have h := HT.out
        unfold amongB at h ⊢
        rw [List.take_succ_eq_append_getElem hm, List.all_append, h]
        simp)
      have HNO := Lib.hid (show (decide (0 ≤ l[i]) && decide (l[i] < k)) = false → amongB k l = false from fun h => by
        unfold amongB
        rw [List.all_eq_false]
        exact ⟨l[i], List.getElem_mem hm, by simpa using h⟩)
      obtain ⟨x, hx⟩ : ∃ x, l[i] = x := ⟨_, rfl⟩
      rw [hx] at e0 HNX HNO
      have hk0 : (0 : Int) ≤ (i : Int) := Int.natCast_nonneg _
      have hk1 : (i : Int) < (n : Int) := by omega
      have HLT := Lib.hid hlt
      clear hx hm hlt
      by_cases h0 : x < 0
      · have t0 : decide (x < 0) = true := decide_eq_true h0
        have HF := Lib.hid (HNO.out (by simp; omega))
        go_wp2_with fail
        go_ret
        exact ⟨by rw [HF.out]; rfl, Below.refl _ _⟩
      · have t0 : decide (x < 0) = false := decide_eq_false h0
        by_cases h1 : k ≤ x
        · have t1 : decide (k ≤ x) = true := decide_eq_true h1
          have HF := Lib.hid (HNO.out (by simp; omega))
          go_wp2_with fail
          go_ret
          exact ⟨by rw [HF.out]; rfl, Below.refl _ _⟩
        · have t1 : decide (k ≤ x) = false := decide_eq_false h1
          have HF := Lib.hid (show amongB k (l.take (i + 1)) = true by rw [HNX.out]; simp; omega)
          go_wp2_with fail
          go_roundw
          case rel => exact ⟨i + 1, by have := HLT.out; omega, by go_num, HF.out, trivial⟩
          case measure => have := HLT.out; simp [intOf]; omega
    · have hd : decide ((i : Int) < (n : Int)) = false := by simp; omega
      have HF := Lib.hid (show amongB k l = true by
        have h := HT.out
        rwa [List.take_of_length_le (by have := HN.out; omega)] at h)
      go_wp2_with fail
      go_ret
      exact ⟨by rw [HF.out]; rfl, Below.refl _ _⟩
theorem refName_any (s : ByteArray) (w : World) (hs : s.size < 9223372036854775808) : Calls Try.prog 25 #[.string s] w fun e w' => e = .returned (.bool (nameB s)) ∧ w = w' := by
  have HE := Lib.hid (show nameB s = (decide (1 ≤ (s.size : Int)) && decide ((s.size : Int) ≤ 16)) from rfl)
  obtain ⟨z, hz⟩ : ∃ z, s.size = z := ⟨_, rfl⟩
  rw [hz] at HE
  by_cases h1 : 1 ≤ z
  · have t1 : decide (1 ≤ z) = true := decide_eq_true h1
    have t1' : decide ((1 : Int) ≤ (z : Int)) = true := decide_eq_true (by omega)
    rw [t1'] at HE
    by_cases h2 : z ≤ 16
    · have t2 : decide (z ≤ 16) = true := decide_eq_true h2
      have t2' : decide ((z : Int) ≤ 16) = true := decide_eq_true (by omega)
      rw [t2'] at HE
      go_enter Try.func25, Try.ntmps25
      go_wp2_with fail
      go_ret
      exact ⟨by rw [HE.out]; rfl, rfl⟩
    · have t2 : decide (z ≤ 16) = false := decide_eq_false h2
      have t2' : decide ((z : Int) ≤ 16) = false := decide_eq_false (by omega)
      rw [t2'] at HE
      go_enter Try.func25, Try.ntmps25
      go_wp2_with fail
      go_ret
      exact ⟨by rw [HE.out]; rfl, rfl⟩
  · have t1 : decide (1 ≤ z) = false := decide_eq_false h1
    have t1' : decide ((1 : Int) ≤ (z : Int)) = false := decide_eq_false (by omega)
    rw [t1'] at HE
    go_enter Try.func25, Try.ntmps25
    go_wp2_with fail
    go_ret
    exact ⟨by rw [HE.out]; rfl, rfl⟩
theorem refNamed_any (o a b k : Int) (s : ByteArray) (v : Value) (w : World) : Calls Try.prog 81 #[.agg #[.int .i64 o, .int .i64 a, .int .i64 b, .int .u64 k, .string s, v]] w fun e w' => e = .returned (.bool (hasB o)) ∧ Below w.heap.size w w' := by
  have HE := Lib.hid (show hasB o = (o == 12 || o == 13 || o == 14) from rfl)
  cases h12 : (o == 12) with
  | true =>
    rw [h12] at HE
    go_enter Try.func81, Try.ntmps81
    go_wp2_with fail
    go_ret
    exact ⟨by rw [HE.out]; rfl, balloc (Below.refl _ w) _⟩
  | false =>
    cases h13 : (o == 13) with
    | true =>
      rw [h12, h13] at HE
      go_enter Try.func81, Try.ntmps81
      go_wp2_with fail
      go_ret
      exact ⟨by rw [HE.out]; rfl, balloc (Below.refl _ w) _⟩
    | false =>
      rw [h12, h13] at HE
      go_enter Try.func81, Try.ntmps81
      go_wp2_with fail
      go_ret
      exact ⟨by rw [HE.out]; simp, balloc (Below.refl _ w) _⟩
theorem own2i (w : World) (X : Obj) (a b : Int) : OwnsI ((w.alloc X).alloc (.cells #[.int .i64 a, .int .i64 b] 3)) w.heap.size (.slice (some ⟨w.heap.size + 1, 0, none⟩) 2 2) [a, b] :=
  ⟨rfl, .inr ⟨w.heap.size + 1, 2, _, rfl, by omega, by have f := heap_alloc_new (w.alloc X) (.cells #[.int .i64 a, .int .i64 b] 3); rw [World.size_alloc] at f; exact f, Nat.le_refl _, by unfold maxLen; omega, rfl, rfl⟩⟩
theorem own0 (w : World) (X : Obj) : OwnsI ((w.alloc X).alloc (.cells #[] 3)) w.heap.size (.slice (some ⟨w.heap.size + 1, 0, none⟩) 0 0) [] :=
  ⟨rfl, .inr ⟨w.heap.size + 1, 0, #[], rfl, by omega, by have f := heap_alloc_new (w.alloc X) (.cells #[] 3); rw [World.size_alloc] at f; exact f, Nat.le_refl _, by unfold maxLen; omega, rfl, rfl⟩⟩
set_option maxRecDepth 100000 in
set_option maxHeartbeats 2000000 in
/-- the reference's Uses, of every instruction -/
theorem refUses_any (i : In) (A : Option Addr) (cap : Nat) (w : World) (hP : Ints w (.slice A i.l.length cap) i.l) (hn : i.l.length * 8 ≤ 140737488355328) :
    Calls Try.prog 80 #[inV i (.slice A i.l.length cap)] w (NewInts (usesI i) w) := by
  obtain ⟨o, a, b, k, s, l⟩ := i
  unfold inV usesI
  simp only at hP hn ⊢
  obtain ⟨nl, hnl⟩ : ∃ n, l.length = n := ⟨_, rfl⟩
  have HN := Lib.hid (show l.length * 8 ≤ 140737488355328 from hn)
  have HP := Lib.hid (fun (W : World) (hb : Below w.heap.size w W) => hP.next hb)
  rw [hnl] at HP ⊢
  clear hP hn
  by_cases h : 2 ≤ o ∧ o ≤ 11
  · have HE := Lib.hid (show usesL o a b l = [a, b] by unfold usesL; rw [if_pos h])
    have d2 : decide (2 ≤ o) = true := decide_eq_true h.1
    have d11 : decide (o ≤ 11) = true := decide_eq_true h.2
    clear h
    go_enter Try.func80, Try.ntmps80
    go_wp2_with fail
    go_ret
    exact ⟨_, rfl, by rw [HE.out]; exact own2i _ _ _ _, balloc (balloc (Below.refl _ w) _) _⟩
  have hx : (decide (2 ≤ o) = true ∧ decide (o ≤ 11) = false) ∨ decide (2 ≤ o) = false := by
    by_cases h2 : 2 ≤ o
    · exact .inl ⟨decide_eq_true h2, decide_eq_false (by omega)⟩
    · exact .inr (decide_eq_false h2)
  by_cases h13 : o = 13
  · subst h13
    have HE := Lib.hid (show usesL 13 a b l = [a] from rfl)
    clear hx h
    go_enter Try.func80, Try.ntmps80
    go_wp2_with fail
    go_ret
    exact ⟨_, rfl, by rw [HE.out]; exact own2 _ _ _, balloc (balloc (Below.refl _ w) _) _⟩
  by_cases h16 : o = 16
  · subst h16
    have HE := Lib.hid (show usesL 16 a b l = [a] from rfl)
    clear hx h h13
    go_enter Try.func80, Try.ntmps80
    go_wp2_with fail
    go_ret
    exact ⟨_, rfl, by rw [HE.out]; exact own2 _ _ _, balloc (balloc (Below.refl _ w) _) _⟩
  by_cases h14 : o = 14
  · subst h14
    have HE := Lib.hid (show usesL 14 a b l = l from rfl)
    clear hx h h13 h16
    go_enter Try.func80, Try.ntmps80
    go_wp2_with ((
      at_builtin
      refine wpList_append_ints rfl _ _ rfl w.heap.size _ [] l rfl ?own _ rfl ?ints ?len ?base ?_
      case own => exact own0 _ _
      case ints => exact HP.out _ (balloc (balloc (Below.refl _ w) _) _)
      case len => have := HN.out; simpa using this
      case base => simp only [World.size_alloc]; omega
      intro v' w1 hown hgrow))
    have HO := Lib.hid hown
    have HB := Lib.hid ((balloc (balloc (Below.refl _ w) _) _).grown hgrow (by simp only [World.size_alloc]; omega) (fun k hk => by cases hk; show w.heap.size ≤ w.heap.size + 1; omega))
    clear hown hgrow
    go_wp2_with fail
    go_ret
    exact ⟨_, rfl, by rw [HE.out]; exact HO.out, HB.out⟩
  have HE := Lib.hid (usesL_nil (a := a) (b := b) (l := l) h h13 h16 h14)
  have t13 : (o == 13) = false := by simpa using h13
  have t16 : (o == 16) = false := by simpa using h16
  have t14 : (o == 14) = false := by simpa using h14
  clear h h13 h16 h14
  rcases hx with ⟨d2, d11⟩ | d2
  · go_enter Try.func80, Try.ntmps80
    go_wp2_with fail
    go_ret
    exact ⟨_, rfl, by rw [HE.out]; exact ⟨rfl, .inl ⟨rfl, rfl⟩⟩, balloc (Below.refl _ w) _⟩
  · go_enter Try.func80, Try.ntmps80
    go_wp2_with fail
    go_ret
    exact ⟨_, rfl, by rw [HE.out]; exact ⟨rfl, .inl ⟨rfl, rfl⟩⟩, balloc (Below.refl _ w) _⟩
set_option maxRecDepth 100000 in
theorem refInts_any (m k : List Int) (A A' : Option Addr) (n n' cap cap' : Nat) (w : World) (hS : Ints w (.slice A n cap) m) (hS' : Ints w (.slice A' n' cap') k) (hn9 : n ≤ 9223372036854775807) (_hn9' : n' ≤ 9223372036854775807) :
    Calls Try.prog 65 #[.slice A n cap, .slice A' n' cap'] w fun e w' => e = .returned (.bool (decide (m = k))) ∧ Below w.heap.size w w' := by
  have HN := Lib.hid (show m.length ≤ n ∧ n ≤ m.length by have := hS.len; omega)
  have HN' := Lib.hid (show k.length ≤ n' ∧ n' ≤ k.length by have := hS'.len; omega)
  have HS := Lib.hid hS
  have HS' := Lib.hid hS'
  have n1 : (n : Int) ≤ 9223372036854775807 := by omega
  clear hS hS' hn9 _hn9'
  go_enter Try.func65, Try.ntmps65
  by_cases hl : n = n'
  case neg =>
    have t : ((n : Int) == (n' : Int)) = false := by simp; omega
    have HV := Lib.hid (show decide (m = k) = false from decide_eq_false (fun e => hl (by have := HN.out; have := HN'.out; rw [e] at *; omega)))
    go_wp2_with fail
    go_ret
    exact ⟨by rw [HV.out]; rfl, Below.refl _ _⟩
  subst hl
  go_wp2_with fail
  go_loopw [5] (fun iv wr => ∃ i : Nat, i ≤ n ∧ iv = .int .i64 i ∧ m.take i = k.take i ∧ Below w.heap.size w wr) (fun iv _ => n - (intOf iv).toNat)
  case atStart => exact ⟨0, Nat.zero_le _, rfl, by simp, Below.refl _ _⟩
  case round =>
    obtain ⟨i, hi, rfl, hs, hb⟩ := hrel
    have HT := Lib.hid hs
    have HB := Lib.hid hb
    clear hs
    by_cases hlt : i < n
    · have hm : i < m.length := by have := HN.out; omega
      have hk : i < k.length := by have := HN'.out; omega
      obtain ⟨b, off, hA, e0⟩ := (HS.out.next hb).at_ hm
      obtain ⟨b', off', hA', e0'⟩ := (HS'.out.next hb).at_ hk
      subst hA hA'
      have HNX := Lib.hid (show m[i] = k[i] → m.take (i + 1) = k.take (i + 1) from fun h => by
        rw [List.take_succ_eq_append_getElem hm, List.take_succ_eq_append_getElem hk, HT.out, h])
      have HNO := Lib.hid (show m[i] ≠ k[i] → decide (m = k) = false from fun h => decide_eq_false (fun e => h (by subst e; rfl)))
      obtain ⟨x, hx⟩ : ∃ x, m[i] = x := ⟨_, rfl⟩
      obtain ⟨y, hy⟩ : ∃ x, k[i] = x := ⟨_, rfl⟩
      rw [hx] at e0 HNX HNO
      rw [hy] at e0' HNX HNO
      have hk0 : (0 : Int) ≤ (i : Int) := Int.natCast_nonneg _
      have hk1 : (i : Int) < (n : Int) := by omega
      have HLT := Lib.hid hlt
      clear hx hy hm hk hlt hb
      go_upto_region 1 with fail
      by_cases hq : x = y
      · subst hq
        have HV := Lib.hid (HNX.out rfl)
        go_quiet (fail)
        go_wp2_with fail
        go_roundw
        case rel => exact ⟨i + 1, HLT.out, by go_num, HV.out, below_drewN HB.out _⟩
        case measure => have := HLT.out; simp [intOf]; omega
      · have tq : (x == y) = false := by simpa using hq
        have HV := Lib.hid (HNO.out hq)
        go_quiet (fail)
        go_wp2_with fail
        go_ret
        exact ⟨by rw [HV.out]; rfl, below_drewN HB.out _⟩
    · have hd : decide ((i : Int) < (n : Int)) = false := by simp; omega
      have HV := Lib.hid (show decide (m = k) = true from decide_eq_true (by
        have h := HT.out
        rwa [List.take_of_length_le (by have := HN.out; omega), List.take_of_length_le (by have := HN'.out; omega)] at h))
      go_wp2_with fail
      go_ret
      exact ⟨by rw [HV.out]; rfl, HB.out⟩
end Go.Proofs.Ytjldddpchiaalaa
