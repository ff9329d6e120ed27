/- Package ir: has each instruction of a module a name of what it asks for, with as many values as that one is handed? The walk. -/
import Derived.Test.YtcfniagmnkngfaaBK
namespace Go.Proofs.Ytcfniagmnkngfaa
open Go.RowKit Go.Shelf Go.Maps

attribute [local go_sem] Oper.semAt_some

set_option maxRecDepth 100000 in
set_option maxHeartbeats 4000000 in
theorem found_any (m : Md) (F G : Option Addr) (nf cf ng cg mb mn : Nat) (w : World) (hok : MdOk m) (hnf : m.f.length = nf) (hn : (namesM m).Nodup) (hS : MdAt w (.slice F nf cf) (.slice G ng cg) m) (hM : w.ownsMap Try.prog 9 thR mb mn (mapD (entM m))) :
    Calls Try.prog 91 #[.agg #[.slice F nf cf, .slice G ng cg], .map (some mb)] w fun e w' => e = .returned (.int .i64 (foundE m)) ∧ Below w.heap.size w w' := by
  have HS := Lib.hid hS
  have HOK := Lib.hid hok
  have HNF := Lib.hid (show m.f.length ≤ nf ∧ nf ≤ m.f.length by omega)
  have HM := Lib.hid hM
  have HND := Lib.hid hn
  have f9 : (nf : Int) ≤ 9223372036854775807 := by have := hok.2.2.1; omega
  clear hS hok hnf hn hM
  refine (callsIn_wide (n := 3)).1 ?_
  refine callsIn_of_wp_marks Try.func91 rfl trivial ?_ rfl
  simp only [Try.ntmps91, List.size_toArray, List.length_cons, List.length_nil, Nat.reduceAdd, Nat.reduceSub, Array.replicate_succ, Array.replicate_zero, List.push_toArray, List.append_toArray, List.nil_append, List.cons_append]
  gi_wp2_with (fail)
  --LOOP
  have bM := (((Boxed.new (w.alloc (.cells #[.slice F nf cf, .slice G ng cg] 25)) 148 (.map (some mb))).alloc (.cells #[.int .i64 0] 32)).alloc (.cells #[.int .i64 0] 32))
  have bR := ((Boxed.new ((w.alloc (.cells #[.slice F nf cf, .slice G ng cg] 25)).alloc (.cells #[.map (some mb)] 148)) 32 (.int .i64 0)).alloc (.cells #[.int .i64 0] 32))
  have bE := (Boxed.new (((w.alloc (.cells #[.slice F nf cf, .slice G ng cg] 25)).alloc (.cells #[.map (some mb)] 148)).alloc (.cells #[.int .i64 0] 32)) 32 (.int .i64 0))
  have hB0 := balloc (balloc (balloc (balloc (Below.refl _ w) (.cells #[.slice F nf cf, .slice G ng cg] 25)) (.cells #[.map (some mb)] 148)) (.cells #[.int .i64 0] 32)) (.cells #[.int .i64 0] 32)
  simp only [World.size_alloc] at bM bR bE
  have HBM := Lib.hid bM
  have HBR := Lib.hid bR
  have HBE := Lib.hid bE
  have HB0 := Lib.hid hB0
  clear bM bR bE hB0
  generalize ((((w.alloc (.cells #[.slice F nf cf, .slice G ng cg] 25)).alloc (.cells #[.map (some mb)] 148)).alloc (.cells #[.int .i64 0] 32)).alloc (.cells #[.int .i64 0] 32)) = W0 at *
  refine wpIn_loop (fun a wr => ∃ (ds : List Deferred) (u6 u7 u8 u9 u10 u11 u15 u16 u17 u18 u19 u20 u21 u22 u23 u24 u25 u26 u27 u28 u29 u30 u31 u32 u33 u34 u35 u36 u37 u38 u39 u40 u41 u42 u43 u44 u45 u46 u47 u48 u49 u50 u51 u52 u53 u54 : Value), (∃ k : Nat, k ≤ nf ∧ u15 = .int .i64 k ∧ (insT m k).any (noneI m) = false ∧ Boxed wr (w.heap.size + 1) 148 (.map (some mb)) ∧ Boxed wr (w.heap.size + 1 + 1) 32 (.int .i64 0) ∧ Boxed wr (w.heap.size + 1 + 1 + 1) 32 (.int .i64 (eOf m (insT m k))) ∧ Marks w.heap.size wr ds ∧ Below w.heap.size w wr) ∧ a = { tmps := #[.agg #[.slice F nf cf, .slice G ng cg], .map (some mb), .pointer (some ⟨w.heap.size, 0, none⟩), .pointer (some ⟨w.heap.size + 1, 0, none⟩), .pointer (some ⟨w.heap.size + 1 + 1, 0, none⟩), .pointer (some ⟨w.heap.size + 1 + 1 + 1, 0, none⟩), u6, u7, u8, u9, u10, u11, .pointer (some ⟨w.heap.size, 0, none⟩), .slice F nf cf, .int .i64 nf, u15, u16, u17, u18, u19, u20, u21, u22, u23, u24, u25, u26, u27, u28, u29, u30, u31, u32, u33, u34, u35, u36, u37, u38, u39, u40, u41, u42, u43, u44, u45, u46, u47, u48, u49, u50, u51, u52, u53, u54, undef], defers := ds }) (fun a _ => nf - (intOf (a.tmps.getD 15 undef)).toNat) ?_ ?_
  · refine ⟨[], _, _, _, _, _, _, _, _, _, _, _, _, _, _, _, _, _, _, _, _, _, _, _, _, _, _, _, _, _, _, _, _, _, _, _, _, _, _, _, _, _, _, _, _, _, _, ?_, rfl⟩
    exact ⟨0, Nat.zero_le _, rfl, rfl, HBM.out, HBR.out, HBE.out, trivial, HB0.out⟩
  intro a wr hinv
  obtain ⟨ds, u6, u7, u8, u9, u10, u11, u15, u16, u17, u18, u19, u20, u21, u22, u23, u24, u25, u26, u27, u28, u29, u30, u31, u32, u33, u34, u35, u36, u37, u38, u39, u40, u41, u42, u43, u44, u45, u46, u47, u48, u49, u50, u51, u52, u53, u54, ⟨k, hk, hu15, hnn, bm, br, be, hmk, hb⟩, ha⟩ := hinv
  subst hu15
  subst ha
  try dsimp only
  have HNN := Lib.hid hnn
  have HM1 := Lib.hid bm
  have HR1 := Lib.hid br
  have HE1 := Lib.hid be
  have HMK := Lib.hid hmk
  have HB1 := Lib.hid hb
  clear hnn bm br be hmk hb HBM HBR HBE HB0
  by_cases hlt : k < nf
  case neg =>
    have hd : decide ((k : Int) < (nf : Int)) = false := by simp; omega
    have c5 := HE1.out.cell
    have f4 := HR1.out.frozen
    have c4 := HR1.out.cell
    have HV := Lib.hid (show foundE m = eOf m (insT m k) by
      rw [insT_all m k (by have := HNF.out; omega)]
      exact found_some (by rw [← insT_all m k (by have := HNF.out; omega)]; exact HNN.out))
    gi_wp2_with (fail)
    have bs := HR1.out.set (.int .i64 (eOf m (insT m k)))
    refine leaves_marks _ _ (HMK.out.kept fun D _ h => ?_) (by have := HB1.out.size; simp [World.setCell]; omega) (fun W' hb' hk' => ?_)
    · exact ((KeepsOthers.setCell wr ⟨w.heap.size + 1 + 1, 0, none⟩ (.int .i64 (eOf m (insT m k)))).same D _ h rfl)
    · have hc := (show Boxed W' (w.heap.size + 1 + 1) 32 (.int .i64 (eOf m (insT m k))) from hk' _ _ _ _ bs).cell
      refine ⟨.int .i64 (eOf m (insT m k)), ?_, by rw [HV.out], (HB1.out.setCell (p := ⟨w.heap.size + 1 + 1, 0, none⟩) (by simp; omega) _).trans hb'⟩
      simp [results, Try.f91, go_sem, hc]
  have hmf : k < m.f.length := by have := HNF.out; omega
  obtain ⟨b, off, hA, hbl, e0⟩ := RowOf.at_ HS.out.1 hmf
  subst hA
  obtain ⟨d0, d1, d2, A, cc, d3, hbk⟩ := e0
  have c0 := (cellNext hbl HB1.out _).trans d0
  have c1 := (cellNext hbl HB1.out _).trans d1
  have c2 := (cellNext hbl HB1.out _).trans d2
  have c3 := (cellNext hbl HB1.out _).trans d3
  clear d0 d1 d2 d3
  have HOKF := Lib.hid (HOK.out.1 _ (List.getElem_mem hmf))
  have HSUC := Lib.hid (insT_succ m k hmf)
  obtain ⟨fn, hfn⟩ : ∃ fn, m.f[k] = fn := ⟨_, rfl⟩
  rw [hfn] at c0 c1 c2 c3 hbk HOKF HSUC
  obtain ⟨ts, hD⟩ := blkIts_of hbk
  have HD := Lib.hid hD
  obtain ⟨x0, h0⟩ : ∃ x, fn.s = x := ⟨_, rfl⟩
  obtain ⟨x1, h1⟩ : ∃ x, fn.b = x := ⟨_, rfl⟩
  obtain ⟨x2, h2⟩ : ∃ x, fn.p = x := ⟨_, rfl⟩
  obtain ⟨x3, h3⟩ : ∃ x, fn.l.length = x := ⟨_, rfl⟩
  have HX3 := Lib.hid h3
  rw [h0] at c0
  rw [h1] at c1
  rw [h2] at c2
  rw [h3] at c3 HD
  have hk0 : (0 : Int) ≤ (k : Int) := Int.natCast_nonneg _
  have hk1 : (k : Int) < (nf : Int) := by omega
  have HLT := Lib.hid hlt
  clear hD hbk h0 h1 h2 h3 hfn hmf hlt
  gi_wp2_with (fail)
  refine ⟨trivial, ?_⟩
  refine (insts_in 2 _ _ _ _ _).mono ?_
  rintro e w1 ⟨rfl, rfl⟩
  gi_wp2_with (fail)
  --RANGE
  have hin := balloc (balloc (Below.refl _ wr) (.cells #[.string x0, .int .i64 x1, .int .i64 x2, .slice A x3 cc] 78)) (.cells #[.string x0, .int .i64 x1, .int .i64 x2, .slice A x3 cc] 78)
  have bM := boxed_below HM1.out hin
  have bR := boxed_below HR1.out hin
  have bE := boxed_below HE1.out hin
  have hB1 := bthen HB1.out hin
  have HMK1 := Lib.hid (HMK.out.kept (W' := (wr.alloc (.cells #[.string x0, .int .i64 x1, .int .i64 x2, .slice A x3 cc] 78)).alloc (.cells #[.string x0, .int .i64 x1, .int .i64 x2, .slice A x3 cc] 78)) (fun D _ h => (hin.block D (Array.getElem?_eq_some_iff.1 h).1).trans h))
  have hFn := Lib.cell_of_heap (heap_alloc_new (wr.alloc (.cells #[.string x0, .int .i64 x1, .int .i64 x2, .slice A x3 cc] 78)) (.cells #[.string x0, .int .i64 x1, .int .i64 x2, .slice A x3 cc] 78)) 3
  simp only [List.getElem?_toArray, List.getElem?_cons_zero, List.getElem?_cons_succ, World.size_alloc] at hFn
  have HIT := Lib.hid (show ∀ x ∈ ts.flatten, InOk x.i ∧ (∃ A cap, x.v = .slice A x.i.l.length cap) ∧ Ints w x.v x.i.l from fun x hx => by
    refine ⟨?_, HD.out.all x hx⟩
    have h1 : x.i ∈ ts.flatten.map (·.i) := List.mem_map_of_mem hx
    rw [HD.out.ins] at h1
    obtain ⟨l, hl, hxl⟩ := List.mem_flatten.1 h1
    obtain ⟨b', hb', rfl⟩ := List.mem_map.1 hl
    exact (HOKF.out.2.2 b' hb').2.2.2 _ hxl)
  have HINS := Lib.hid (show ts.flatten.map (·.i) = insF fn from HD.out.ins)
  have HPRE := Lib.hid (show insT m (k + 1) <+: insM m from insT_pre m (k + 1))
  have HSZ := Lib.hid (show wr.heap.size ≤ ((wr.alloc (.cells #[.string x0, .int .i64 x1, .int .i64 x2, .slice A x3 cc] 78)).alloc (.cells #[.string x0, .int .i64 x1, .int .i64 x2, .slice A x3 cc] 78)).heap.size by simp; omega)
  have HBW := Lib.hid HB1.out.size
  have HW0 := Lib.hid hin
  clear c0 c1 c2 c3
  generalize (wr.alloc (.cells #[.string x0, .int .i64 x1, .int .i64 x2, .slice A x3 cc] 78)).alloc (.cells #[.string x0, .int .i64 x1, .int .i64 x2, .slice A x3 cc] 78) = W1 at *
  refine wpIn_rangeFunc_ownH (α := {x : It // InOk x.i ∧ (∃ A cap, x.v = .slice A x.i.l.length cap) ∧ Ints w x.v x.i.l}) rfl (by omega) (gf := 143) (lb := #[.pointer (some ⟨wr.heap.size + 1, 0, none⟩)]) rfl trivial (enters_of Try.func143 (by kernel_rfl) rfl)
    (its_stops 2 (by omega) (wr.heap.size + 1) x3 cc A fn.l ts _ HIT.out w W1 HX3.out (by have := HOKF.out.2.1; have := HX3.out; omega) (fun b hb => (HOKF.out.2.2 b hb).1) HD.out hB1 hFn) KeepB.trans (keepB_b hB1.size) (Below.refl _ _) (fun _ => rfl)
    (fun pre W => ((Boxed W (w.heap.size + 1) 148 (.map (some mb)) ∧ Boxed W (w.heap.size + 1 + 1) 32 (.int .i64 0)) ∧ Boxed W (w.heap.size + 1 + 1 + 1) 32 (.int .i64 (eOf m (insT m k ++ pre.map (fun x => x.1.i))))) ∧ ((insT m k ++ pre.map (fun x => x.1.i)).any (noneI m) = false ∧ KeepsFrom 0 W1 W) ∧ (Below w.heap.size w W ∧ w.heap.size ≤ W.heap.size))
    (fun c pre W => Boxed W (w.heap.size + 1 + 1) 32 (.int .i64 8) ∧ ((c = .ret ∧ (insT m k ++ pre.map (fun x => x.1.i)).any (noneI m) = true) ∧ KeepsFrom 0 W1 W) ∧ Below w.heap.size w W)
    (OwnFrom.and (OwnFrom.and (OwnFrom.and (Own.from (boxed_own _ _ _) _) (Own.from (boxed_own _ _ _) _)) (Own.from (boxed_own _ _ (fun pre : List {x : It // InOk x.i ∧ (∃ A cap, x.v = .slice A x.i.l.length cap) ∧ Ints w x.v x.i.l} => Value.int .i64 (eOf m (insT m k ++ pre.map (fun x => x.1.i))))) _)) (OwnFrom.and (OwnFrom.and (ownFrom_pure _ _) (ownFrom_keepsFrom (Nat.le_refl _))) (OwnFrom.and (ownFrom_below (Nat.le_refl _) hB1.size) (fun s X Y row hs hg _ => Nat.le_trans hs hg.size))))
    (fun c => OwnFrom.and (Own.from (boxed_own _ _ _) _) (OwnFrom.and (OwnFrom.and (ownFrom_pure _ _) (ownFrom_keepsFrom (Nat.le_refl _))) (ownFrom_below (Nat.le_refl _) hB1.size)))
    ⟨⟨⟨bM, bR⟩, by simpa using bE⟩, ⟨by simpa using HNN.out, KeepsFrom.refl _ _⟩, hB1, hB1.size⟩
    (fun x a' W => ∃ Bx, BoxedI W Bx x.1 ∧ a' = { tmps := #[.agg #[.slice (some ⟨b, off, none⟩) nf cf, .slice G ng cg], .map (some mb), .pointer (some ⟨w.heap.size, 0, none⟩), .pointer (some ⟨w.heap.size + 1, 0, none⟩), .pointer (some ⟨w.heap.size + 1 + 1, 0, none⟩), .pointer (some ⟨w.heap.size + 1 + 1 + 1, 0, none⟩), u6, .pointer (some ⟨wr.heap.size, 0, none⟩), u8, .pointer (some ⟨Bx, 0, none⟩), u10, u11, .pointer (some ⟨w.heap.size, 0, none⟩), .slice (some ⟨b, off, none⟩) nf cf, .int .i64 nf, .int .i64 k, .bool true, .pointer (some ⟨b, off + k * 4, none⟩), .agg #[.string x0, .int .i64 x1, .int .i64 x2, .slice A x3 cc], .agg #[.string x0, .int .i64 x1, .int .i64 x2, .slice A x3 cc], .func (.func 143) #[] #[.pointer (some ⟨wr.heap.size + 1, 0, none⟩)], .int .i64 x.1.n, inV x.1.i x.1.v, u23, u24, u25, u26, u27, u28, u29, u30, u31, u32, u33, u34, u35, u36, u37, u38, u39, u40, u41, u42, u43, u44, u45, u46, u47, u48, u49, u50, u51, u52, u53, u54, undef], defers := [] })
    (fun x a' s X Y row hs hg hr => by obtain ⟨Bx, h1, h2⟩ := hs; exact ⟨Bx, boxedI_own Bx x.1 () X Y row h1 hg hr, h2⟩)
    ?assign ?body ?done ?stop
  case assign =>
    rintro l pre x W K ⟨⟨⟨b1, b2⟩, b3⟩, ⟨hp, hkf⟩, hb, hsz⟩ hK
    have HK := Lib.hid hK
    clear hK
    obtain ⟨⟨n, ⟨o, a, b', k', s', l'⟩, v⟩, hx⟩ := x
    obtain ⟨-, ⟨A', cap, hv⟩, -⟩ := id hx
    simp only at hv
    subst hv
    simp only [encI, inV]
    gi_wp2
    exact HK.out _ _ ((KeepsOthers.alloc _ _).from _) (KeepB.below hsz (balloc (Below.refl _ _) _)) ⟨⟨⟨b1.alloc _, b2.alloc _⟩, b3.alloc _⟩, ⟨hp, hkf.trans ((KeepsOthers.alloc _ _).from _)⟩, balloc hb _, Nat.le_trans hsz (by simp)⟩ ⟨W.heap.size, BoxedI.new W ⟨n, ⟨o, a, b', k', s', l'⟩, .slice A' l'.length cap⟩, rfl⟩
  case body =>
    rintro l pre x a' W hl hr ⟨⟨⟨b1, b2⟩, b3⟩, ⟨hp, hkf⟩, hb, hsz⟩ ⟨Bx, bx, rfl⟩ hlen
    obtain ⟨A', cap, hv⟩ := x.2.2.1
    obtain ⟨L, hL⟩ : ∃ L, insT m k ++ pre.map (fun x => x.1.i) = L := ⟨_, rfl⟩
    have HL := Lib.hid (show insT m k ++ (pre ++ [x]).map (fun x => x.1.i) = L ++ [x.1.i] by rw [List.map_append, ← List.append_assoc, hL]; rfl)
    rw [hL] at b3 hp
    have HI := Lib.hid (show ((Boxed W (w.heap.size + 1) 148 (.map (some mb)) ∧ Boxed W (w.heap.size + 1 + 1) 32 (.int .i64 0)) ∧ Boxed W (w.heap.size + 1 + 1 + 1) 32 (.int .i64 (eOf m L))) ∧ (L.any (noneI m) = false ∧ KeepsFrom 0 W1 W) ∧ (Below w.heap.size w W ∧ w.heap.size ≤ W.heap.size) from ⟨⟨⟨b1, b2⟩, b3⟩, ⟨hp, hkf⟩, hb, hsz⟩)
    obtain ⟨c0, c1, c2, c3, c4, c5⟩ := bx.cells
    have HX := Lib.hid bx
    have HOW := Lib.hid (HM.out.kept (w' := W) (row := none) ⟨hb.os, hb.tape, hb.output, hb.size, fun k hk _ => hb.block k hk⟩ (by simp))
    have HKY := Lib.hid (skey_of x.2.1.1)
    obtain ⟨l1, l2, l3, l4⟩ := look_map m HND.out x.1.i.s
    obtain ⟨th, hth⟩ : ∃ t, (lookO m x.1.i.s).isSome = t := ⟨_, rfl⟩
    obtain ⟨⟨xb, xp⟩, hxx⟩ : ∃ t, (lookO m x.1.i.s).getD (false, 0) = t := ⟨_, rfl⟩
    have l3 := l3 x.1.i rfl
    have l4 := l4 x.1.i rfl
    rw [hth] at l1 l3
    rw [hxx] at l2 l3 l4
    simp only at l3 l4
    obtain ⟨nn, hnn⟩ : ∃ X, x.1.i.l.length = X := ⟨_, rfl⟩
    rw [hnn] at hv l4
    rw [hv] at c5
    have HXC := Lib.hid (show x.1.v = .slice A' nn cap from hv)
    obtain ⟨X0, h0⟩ : ∃ X, x.1.i.o = X := ⟨_, rfl⟩
    obtain ⟨X4, h4⟩ : ∃ X, x.1.i.s = X := ⟨_, rfl⟩
    rw [h0] at c0 l3 l4
    rw [h4] at c4 HKY l1 l2
    have HOP := Lib.hid (show x.1.i.o = X0 from h0)
    have HL1 := Lib.hid l1
    have HL2 := Lib.hid l2
    have HL3 := Lib.hid l3
    have HL4 := Lib.hid l4
    have mc := b1.cell
    have ef := b3.frozen
    have rf := b2.frozen
    have ec := b3.cell
    have rc := b2.cell
    have hne : Bx ≠ W.heap.size := Nat.ne_of_lt bx.lt
    have n1 : w.heap.size + 1 ≠ W.heap.size := Nat.ne_of_lt (Array.getElem?_eq_some_iff.1 b1).1
    have n2 : w.heap.size + 1 + 1 ≠ W.heap.size := Nat.ne_of_lt (Array.getElem?_eq_some_iff.1 b2).1
    have n3 : w.heap.size + 1 + 1 + 1 ≠ W.heap.size := Nat.ne_of_lt (Array.getElem?_eq_some_iff.1 b3).1
    clear l1 l2 l3 l4 hth hxx hv hnn h0 h4 hb b1 b2 b3 bx hr hl hlen hp hkf hsz c1 c2 c3
    cases hh : (X0 == 12 || X0 == 13 || X0 == 14) with
    | false =>
      have HH := Lib.hid (hasName_any X0 W)
      rw [hh] at HH
      have HHB := Lib.hid (show hasB x.1.i.o = false by rw [HOP.out]; exact hh)
      clear hh
      gi_wp2_with (fail)
      refine ⟨trivial, ?_⟩
      refine (CallsIn.inRound l (callsIn_wide.2 HH.out)).mono ?_
      rintro e w1 ⟨rfl, rfl⟩
      gi_wp2_with (fail)
      have e1 : noneI m x.1.i = false := by
        have h := HHB.out
        unfold hasB at h
        unfold noneI
        cases h12 : x.1.i.o == 12 <;> cases h13 : x.1.i.o == 13 <;> cases h14 : x.1.i.o == 14 <;> simp [h12, h13, h14] at h ⊢
      have e2 : oddI m x.1.i = false := by
        have h := HHB.out
        unfold hasB at h
        unfold oddI
        cases h14 : x.1.i.o == 14 <;> simp [h14] at h ⊢
      refine ⟨KeepsFrom.refl _ _, KeepB.below HI.out.2.2.2 (Below.refl _ _), ⟨⟨HI.out.1.1.1, HI.out.1.1.2⟩, ?_⟩, ⟨?_, HI.out.2.1.2⟩, HI.out.2.2⟩
      · rw [HL.out, eOf_snoc, e2]; exact HI.out.1.2
      · rw [HL.out, none_snoc, HI.out.2.1.1, e1]; rfl
    | true =>
      have HH := Lib.hid (hasName_any X0 W)
      rw [hh] at HH
      have HHB := Lib.hid (show hasB X0 = true from hh)
      clear hh
      gi_wp2_with (fail)
      refine ⟨trivial, ?_⟩
      refine (CallsIn.inRound l (callsIn_wide.2 HH.out)).mono ?_
      rintro e w1 ⟨rfl, rfl⟩
      have HNI := Lib.hid (HL3.out HHB.out)
      have HOD := Lib.hid (HL4.out HHB.out)
      cases th with
      | false =>
        have hin := balloc (Below.refl _ W) (.cells #[.bool xb, .int .i64 xp] 188)
        have q0 := (cellNext (HX.out.lt) hin 0).trans c0
        have q5 := (cellNext (HX.out.lt) hin 5).trans c5
        have HB1 := Lib.hid hin
        have HR2 := Lib.hid (boxed_below HI.out.1.1.2 hin)
        have HE2 := Lib.hid (boxed_below HI.out.1.2 hin)
        have zf := HR2.out.frozen
        have zc := HR2.out.cell
        have yf := HE2.out.frozen
        have yc := HE2.out.cell
        clear hin
        gi_wp2_with (gi_at_lookup; refine wpListIn_lookup_th _ rfl _ _ 148 rfl 9 188 skeyed Try.underlying148 (Try.zeroValue188 _) mb mn _ rfl HOW.out _ _ rfl HKY.out _ _ _ HL1.out HL2.out ?_)
        gi_wp2_with (fail)
        refine ⟨(keeps_below _ HB1.out).trans ((KeepsOthers.setCell _ _ _).from _), HR2.out.set _, ⟨⟨rfl, ?_⟩, (HI.out.2.1.2.trans (keeps_below _ HB1.out)).trans ((KeepsOthers.setCell _ _ _).from _)⟩, (bthen HI.out.2.2.1 HB1.out).setCell (p := ⟨w.heap.size + 1 + 1, 0, none⟩) (by simp; omega) _⟩
        rw [HL.out, none_snoc, HNI.out, HI.out.2.1.1]; rfl
      | true =>
        cases xb with
        | false =>
          cases h14 : (X0 == 14) with
          | true =>
            have hin := balloc (Below.refl _ W) (.cells #[.bool false, .int .i64 xp] 188)
            have q0 := (cellNext (HX.out.lt) hin 0).trans c0
            have q5 := (cellNext (HX.out.lt) hin 5).trans c5
            have HB1 := Lib.hid hin
            have HR2 := Lib.hid (boxed_below HI.out.1.1.2 hin)
            have HE2 := Lib.hid (boxed_below HI.out.1.2 hin)
            have zf := HR2.out.frozen
            have zc := HR2.out.cell
            have yf := HE2.out.frozen
            have yc := HE2.out.cell
            clear hin
            gi_wp2_with (gi_at_lookup; refine wpListIn_lookup_th _ rfl _ _ 148 rfl 9 188 skeyed Try.underlying148 (Try.zeroValue188 _) mb mn _ rfl HOW.out _ _ rfl HKY.out _ _ _ HL1.out HL2.out ?_)
            gi_wp2_with (fail)
            refine ⟨(keeps_below _ HB1.out).trans ((KeepsOthers.setCell _ _ _).from _), HR2.out.set _, ⟨⟨rfl, ?_⟩, (HI.out.2.1.2.trans (keeps_below _ HB1.out)).trans ((KeepsOthers.setCell _ _ _).from _)⟩, (bthen HI.out.2.2.1 HB1.out).setCell (p := ⟨w.heap.size + 1 + 1, 0, none⟩) (by simp; omega) _⟩
            rw [HL.out, none_snoc, HNI.out, HI.out.2.1.1]; rw [h14]; rfl
          | false =>
            have HNV := Lib.hid (show noneI m x.1.i = false by rw [HNI.out, h14]; rfl)
            have HODV := Lib.hid (show oddI m x.1.i = false by rw [HOD.out HNV.out]; rfl)
            have hin := balloc (Below.refl _ W) (.cells #[.bool false, .int .i64 xp] 188)
            have q0 := (cellNext (HX.out.lt) hin 0).trans c0
            have q5 := (cellNext (HX.out.lt) hin 5).trans c5
            have HB1 := Lib.hid hin
            have HR2 := Lib.hid (boxed_below HI.out.1.1.2 hin)
            have HE2 := Lib.hid (boxed_below HI.out.1.2 hin)
            have zf := HR2.out.frozen
            have zc := HR2.out.cell
            have yf := HE2.out.frozen
            have yc := HE2.out.cell
            clear hin
            gi_wp2_with (gi_at_lookup; refine wpListIn_lookup_th _ rfl _ _ 148 rfl 9 188 skeyed Try.underlying148 (Try.zeroValue188 _) mb mn _ rfl HOW.out _ _ rfl HKY.out _ _ _ HL1.out HL2.out ?_)
            gi_wp2_with (fail)
            refine ⟨keeps_below _ HB1.out, KeepB.below HI.out.2.2.2 HB1.out, ⟨⟨boxed_below HI.out.1.1.1 HB1.out, boxed_below HI.out.1.1.2 HB1.out⟩, ?_⟩, ⟨?_, HI.out.2.1.2.trans (keeps_below _ HB1.out)⟩, bthen HI.out.2.2.1 HB1.out, Nat.le_trans HI.out.2.2.2 HB1.out.size⟩
            · rw [HL.out, eOf_snoc, HODV.out]; exact boxed_below HI.out.1.2 HB1.out
            · rw [HL.out, none_snoc, HNV.out, HI.out.2.1.1]; rfl
        | true =>
          cases h14 : (X0 == 14) with
          | false =>
            have hin := balloc (Below.refl _ W) (.cells #[.bool true, .int .i64 xp] 188)
            have q0 := (cellNext (HX.out.lt) hin 0).trans c0
            have q5 := (cellNext (HX.out.lt) hin 5).trans c5
            have HB1 := Lib.hid hin
            have HR2 := Lib.hid (boxed_below HI.out.1.1.2 hin)
            have HE2 := Lib.hid (boxed_below HI.out.1.2 hin)
            have zf := HR2.out.frozen
            have zc := HR2.out.cell
            have yf := HE2.out.frozen
            have yc := HE2.out.cell
            clear hin
            gi_wp2_with (gi_at_lookup; refine wpListIn_lookup_th _ rfl _ _ 148 rfl 9 188 skeyed Try.underlying148 (Try.zeroValue188 _) mb mn _ rfl HOW.out _ _ rfl HKY.out _ _ _ HL1.out HL2.out ?_)
            gi_wp2_with (fail)
            refine ⟨(keeps_below _ HB1.out).trans ((KeepsOthers.setCell _ _ _).from _), HR2.out.set _, ⟨⟨rfl, ?_⟩, (HI.out.2.1.2.trans (keeps_below _ HB1.out)).trans ((KeepsOthers.setCell _ _ _).from _)⟩, (bthen HI.out.2.2.1 HB1.out).setCell (p := ⟨w.heap.size + 1 + 1, 0, none⟩) (by simp; omega) _⟩
            rw [HL.out, none_snoc, HNI.out, HI.out.2.1.1]; rw [h14]; rfl
          | true =>
            have HNV := Lib.hid (show noneI m x.1.i = false by rw [HNI.out, h14]; rfl)
            cases hq : (xp == (nn : Int)) with
            | true =>
              have HODV := Lib.hid (show oddI m x.1.i = false by rw [HOD.out HNV.out]; simp [bne, hq])
              have hin := balloc (Below.refl _ W) (.cells #[.bool true, .int .i64 xp] 188)
              have q0 := (cellNext (HX.out.lt) hin 0).trans c0
              have q5 := (cellNext (HX.out.lt) hin 5).trans c5
              have HB1 := Lib.hid hin
              have HR2 := Lib.hid (boxed_below HI.out.1.1.2 hin)
              have HE2 := Lib.hid (boxed_below HI.out.1.2 hin)
              have zf := HR2.out.frozen
              have zc := HR2.out.cell
              have yf := HE2.out.frozen
              have yc := HE2.out.cell
              clear hin
              gi_wp2_with (gi_at_lookup; refine wpListIn_lookup_th _ rfl _ _ 148 rfl 9 188 skeyed Try.underlying148 (Try.zeroValue188 _) mb mn _ rfl HOW.out _ _ rfl HKY.out _ _ _ HL1.out HL2.out ?_)
              gi_wp2_with (fail)
              refine ⟨keeps_below _ HB1.out, KeepB.below HI.out.2.2.2 HB1.out, ⟨⟨boxed_below HI.out.1.1.1 HB1.out, boxed_below HI.out.1.1.2 HB1.out⟩, ?_⟩, ⟨?_, HI.out.2.1.2.trans (keeps_below _ HB1.out)⟩, bthen HI.out.2.2.1 HB1.out, Nat.le_trans HI.out.2.2.2 HB1.out.size⟩
              · rw [HL.out, eOf_snoc, HODV.out]; exact boxed_below HI.out.1.2 HB1.out
              · rw [HL.out, none_snoc, HNV.out, HI.out.2.1.1]; rfl
            | false =>
              have HODV := Lib.hid (show oddI m x.1.i = true by rw [HOD.out HNV.out]; simp [bne, hq])
              have hin := balloc (Below.refl _ W) (.cells #[.bool true, .int .i64 xp] 188)
              have q0 := (cellNext (HX.out.lt) hin 0).trans c0
              have q5 := (cellNext (HX.out.lt) hin 5).trans c5
              have HB1 := Lib.hid hin
              have HR2 := Lib.hid (boxed_below HI.out.1.1.2 hin)
              have HE2 := Lib.hid (boxed_below HI.out.1.2 hin)
              have zf := HR2.out.frozen
              have zc := HR2.out.cell
              have yf := HE2.out.frozen
              have yc := HE2.out.cell
              clear hin
              gi_wp2_with (gi_at_lookup; refine wpListIn_lookup_th _ rfl _ _ 148 rfl 9 188 skeyed Try.underlying148 (Try.zeroValue188 _) mb mn _ rfl HOW.out _ _ rfl HKY.out _ _ _ HL1.out HL2.out ?_)
              gi_wp2_with (fail)
              have HK2 := Lib.hid (KeepB.below HI.out.2.2.2 HB1.out)
              refine ⟨(keeps_below _ HB1.out).trans ((KeepsOthers.setCell _ _ _).from _), HK2.out.trans (KeepB.grown (grownBy_setCell' _ _ _) (Nat.le_trans HI.out.2.2.2 HB1.out.size) (fun r e => by cases e; exact ⟨by omega, fun cs t f ht hr => by rw [show _ = _ from HE2.out] at hr; cases hr; rcases ht with h | h <;> cases h⟩)), ⟨⟨?_, ?_⟩, ?_⟩, ⟨?_, (HI.out.2.1.2.trans (keeps_below _ HB1.out)).trans ((KeepsOthers.setCell _ _ _).from _)⟩, (bthen HI.out.2.2.1 HB1.out).setCell (p := ⟨w.heap.size + 1 + 1 + 1, 0, none⟩) (by simp; omega) _, Nat.le_trans HI.out.2.2.2 (Nat.le_trans HB1.out.size (by simp [World.setCell]))⟩
              · exact (boxed_below HI.out.1.1.1 HB1.out).other (B' := w.heap.size + 1 + 1 + 1) (by omega) _
              · exact (boxed_below HI.out.1.1.2 HB1.out).other (B' := w.heap.size + 1 + 1 + 1) (by omega) _
              · rw [HL.out, eOf_snoc, HODV.out]; exact HE2.out.set _
              · rw [HL.out, none_snoc, HNV.out, HI.out.2.1.1]; rfl
  case done =>
    rintro D ys W hD hys ⟨⟨⟨b1, b2⟩, b3⟩, ⟨hp, hkf⟩, hb, hsz⟩ hK
    have HBS := Lib.hid (show Boxed W (w.heap.size + 1) 148 (.map (some mb)) ∧ Boxed W (w.heap.size + 1 + 1) 32 (.int .i64 0) ∧ Boxed W (w.heap.size + 1 + 1 + 1) 32 (.int .i64 (eOf m (insT m (k + 1)))) from ⟨b1, b2, by
      rw [HSUC.out, ← HINS.out, ← hys, List.map_map]; exact b3⟩)
    have HPN := Lib.hid (show (insT m (k + 1)).any (noneI m) = false by rw [HSUC.out, ← HINS.out, ← hys, List.map_map]; exact hp)
    have HMK2 := Lib.hid (show Marks w.heap.size W ({ target := .collected D, args := #[] } :: ds) from ⟨⟨D, rfl, Nat.le_trans hB1.size hD, hK, fun d' hd' e => by
        obtain ⟨D', e', h'⟩ := HMK1.out.lt d' hd'
        rw [e'] at e; cases e; omega⟩, HMK1.out.kept fun D' _ h => hkf.same D' _ (Nat.zero_le _) h rfl⟩)
    have HB2 := Lib.hid hb
    clear b1 b2 b3 hp hkf hb hsz hys
    gi_wp2_with (fail)
    refine ⟨?_, ?measure⟩
    · refine ⟨_, _, _, _, _, _, _, _, _, _, _, _, _, _, _, _, _, _, _, _, _, _, _, _, _, _, _, _, _, _, _, _, _, _, _, _, _, _, _, _, _, _, _, _, _, _, _, ?rel, rfl⟩
      case rel => exact ⟨k + 1, HLT.out, by go_num, HPN.out, HBS.out.1, HBS.out.2.1, HBS.out.2.2, HMK2.out, HB2.out⟩
    case measure => have := HLT.out; simp [intOf]; omega
  case stop =>
    rintro D c pre W hD hpre ⟨b3, ⟨⟨rfl, hp⟩, hkf⟩, hb⟩ hK
    have HMK2 := Lib.hid (show Marks w.heap.size W ({ target := .collected D, args := #[] } :: ds) from ⟨⟨D, rfl, Nat.le_trans hB1.size hD, hK, fun d' hd' e => by
        obtain ⟨D', e', h'⟩ := HMK1.out.lt d' hd'
        rw [e'] at e; cases e; omega⟩, HMK1.out.kept fun D' _ h => hkf.same D' _ (Nat.zero_le _) h rfl⟩)
    have HV := Lib.hid (show foundE m = 8 from found_none (L := insT m k ++ pre.map (fun x => x.1.i)) (List.IsPrefix.trans (by
      rw [HSUC.out, ← HINS.out, List.prefix_append_right_inj]
      have h := hpre.map (fun x : It => x.i)
      rwa [List.map_map] at h) HPRE.out) hp)
    gi_wp2_with (fail)
    refine leaves_marks _ _ HMK2.out hb.size (fun W' hb' hk' => ?_)
    have hc := (show Boxed W' (w.heap.size + 1 + 1) 32 (.int .i64 8) from hk' _ _ _ _ b3).cell
    refine ⟨.int .i64 8, ?_, by rw [HV.out], hb.trans hb'⟩
    simp [results, Try.f91, go_sem, hc]
end Go.Proofs.Ytcfniagmnkngfaa
