/- Package eval: some of the values that are known. Package eval: a block begins. Package eval: a call is opened: what becomes of memory. -/
import Derived.Test.YtkalgiaapkjplaaVA
namespace Go.Proofs.Ytkalgiaapkjplaa
open Go.RowKit

theorem u64_info : (Try.prog.info? 41).map (fun i => (i.zero, i.size, i.bytes)) = some (some (.int .u64 0), 1, 8) := by kernel_rfl
theorem info_three {P : Program} {t : TypeId} {z : Value} {s b : Nat} (h : (P.info? t).map (fun i => (i.zero, i.size, i.bytes)) = some (some z, s, b)) : ∃ i, P.info? t = some i ∧ i.zero = some z ∧ i.size = s ∧ i.bytes = b := by
  cases hi : P.info? t with
  | none => rw [hi] at h; cases h
  | some i =>
    rw [hi] at h
    simp only [Option.map_some, Option.some.injEq, Prod.mk.injEq] at h
    exact ⟨i, rfl, h.1, h.2.1, h.2.2⟩
theorem made_u64 (n : Nat) : (madeCells (Value.int .u64 0).cells (n * 1)).toList = List.replicate n (Value.int .u64 0) := by
  apply List.ext_getElem
  · simp [madeCells]
  · intro i h1 h2
    simp [madeCells, Value.cells, Nat.mod_one]
theorem mk_u64 (n : Nat) (hn : n ≤ 1000) (w : World) : ∃ w2, (Instr.makeSlice 105 (.int .i64 n) (.int .i64 n)).run Try.prog w = .ok (.slice (some ⟨w.heap.size, 0, none⟩) n n) w2 ∧
    w2.ownsRow 0 41 1 (.slice (some ⟨w.heap.size, 0, none⟩) n n) n (List.replicate n (.int .u64 0)) ∧ Below w.heap.size w w2 ∧ w2.heap.size = w.heap.size + 1 := by
  obtain ⟨i0, hi, hz0, hz1, hz2⟩ := info_three u64_info
  have hr := run_make (P := Try.prog) w 105 41 i0 _ Try.underlying105 hi hz0 .i64 .i64 n n (by omega) (by omega) (by rw [hz2]; omega) (by omega)
  simp only [Int.toNat_natCast, hz1] at hr
  refine ⟨_, hr, ?_, balloc (Below.refl _ _) _, by simp⟩
  have := World.ownsRow_lit (base := 0) (size := 1) (e := 41) w (madeCells (Value.int .u64 0).cells (n * 1)) n (Nat.zero_le _) (by unfold maxLen; omega) (size_madeCells _ _)
  rw [made_u64] at this
  exact this
/-- some of the values -/
def pickE (vs : List Int) (l : List Int) : List Int := l.map (fun v => vs.getD v.toNat 0)
theorem pick_length (vs l : List Int) : (pickE vs l).length = l.length := by simp [pickE]
def pickT (vs l : List Int) (i : Nat) : List Value := u64s (pickE vs (l.take i)) ++ List.replicate (l.length - i) (.int .u64 0)
theorem pickT_succ (vs l : List Int) (i : Nat) (h : i < l.length) : (pickT vs l i).set i (.int .u64 (vs.getD l[i].toNat 0)) = pickT vs l (i + 1) := by
  have e : (u64s (pickE vs (l.take i))).length = i := by simp [u64s, pickE, List.length_take]; omega
  obtain ⟨n, hn⟩ : ∃ n, l.length - i = n + 1 := ⟨l.length - i - 1, by omega⟩
  unfold pickT
  rw [List.set_append_right _ _ (by omega), e, Nat.sub_self, hn, List.replicate_succ, List.set_cons_zero, List.take_succ_eq_append_getElem h]
  rw [show l.length - (i + 1) = n by omega]
  simp only [u64s, pickE, List.map_append, List.map_cons, List.map_nil, List.append_assoc, List.cons_append, List.nil_append]
theorem pickT_all (vs l : List Int) : pickT vs l l.length = u64s (pickE vs l) := by
  unfold pickT
  simp
set_option maxRecDepth 100000 in
set_option maxHeartbeats 2000000 in
theorem known_any (og off g cap nv nl : Nat) (vs l : List Int) (A : Option Addr) (ca : Nat) (w : World) (hnv : vs.length = nv) (hnl : l.length = nl) (hl6 : nl ≤ 6)
    (hc : w.cell? ⟨og, off + 3, none⟩ = some (.slice (some ⟨g, 0, none⟩) nv cap)) (hv : w.ownsRow 0 41 1 (.slice (some ⟨g, 0, none⟩) nv cap) nv (u64s vs))
    (hl : Ints w (.slice A nl ca) l) (hin : ∀ x ∈ l, 0 ≤ x ∧ x < nv) :
    Calls Try.prog 91 #[.pointer (some ⟨og, off, none⟩), .slice A nl ca] w fun e w' =>
      e = .returned (.slice (some ⟨w.heap.size, 0, none⟩) nl nl) ∧ w'.ownsRow 0 41 1 (.slice (some ⟨w.heap.size, 0, none⟩) nl nl) nl (u64s (pickE vs l)) ∧ Below w.heap.size w w' := by
  obtain ⟨w2, hmk, hown, hb2, hs2⟩ := mk_u64 nl (by omega) w
  have HC := Lib.hid hc
  have HV := Lib.hid hv
  have HL := Lib.hid hl
  have HIN := Lib.hid hin
  have HNV := Lib.hid (show vs.length ≤ nv ∧ nv ≤ vs.length by omega)
  have HNL := Lib.hid (show l.length ≤ nl ∧ nl ≤ l.length by omega)
  have HO := Lib.hid (show w2.ownsRow 0 41 1 (.slice (some ⟨w.heap.size, 0, none⟩) nl nl) nl (pickT vs l 0) by
    unfold pickT
    rw [hnl]
    simpa [u64s, pickE] using hown)
  have HB2 := Lib.hid hb2
  have HS2 := Lib.hid (show w.heap.size < w2.heap.size by omega)
  have n6 : (nl : Int) ≤ 6 := by omega
  obtain ⟨H, hH⟩ : ∃ H, w.heap.size = H := ⟨_, rfl⟩
  rw [hH] at hmk HO HB2 HS2 ⊢
  have HHS := Lib.hid (show w.heap.size ≤ H ∧ H ≤ w.heap.size by omega)
  clear hc hv hl hin hnv hnl hown hb2 hs2 hl6 hH
  go_enter Try.func91, Try.ntmps91
  go_wp2_with fail
  clear hmk
  go_loopw [13] (fun iv wr => ∃ i : Nat, i ≤ nl ∧ iv = .int .i64 i ∧ wr.ownsRow 0 41 1 (.slice (some ⟨H, 0, none⟩) nl nl) nl (pickT vs l i) ∧ Below H w wr) (fun iv _ => nl - (intOf iv).toNat)
  case atStart => exact ⟨0, Nat.zero_le _, rfl, HO.out, HB2.out⟩
  case round =>
    obtain ⟨i, hi, rfl, ho, hb⟩ := hrel
    have HT := Lib.hid ho
    have HB := Lib.hid hb
    clear ho hb
    by_cases hlt : i < nl
    · have hil : i < l.length := by have := HNL.out; omega
      obtain ⟨b, o2, hA, c0⟩ := HL.out.at_ hil
      subst hA
      have hbw : Below w.heap.size w wr := HB.out.mono (by have := HHS.out; omega)
      have hb1 : b < w.heap.size := World.block_lt_of_cell? w _ c0
      have c1 := (cellNext hb1 hbw _).trans c0
      clear c0
      have ci := HIN.out _ (List.getElem_mem hil)
      obtain ⟨x, hx⟩ : ∃ x, l[i] = x := ⟨_, rfl⟩
      have HNX := Lib.hid (pickT_succ vs l i hil)
      rw [hx] at c1 ci HNX
      obtain ⟨x0, x1⟩ := ci
      obtain ⟨xn, rfl⟩ := Int.eq_ofNat_of_zero_le x0
      have hxn : xn < vs.length := by have := HNV.out; omega
      have c3 : wr.cell? ⟨og, off + 3, none⟩ = some (.slice (some ⟨g, 0, none⟩) nv cap) := (cellNext (World.block_lt_of_cell? w _ HC.out) hbw _).trans HC.out
      have hgl : g < w.heap.size := (HV.out.lt g rfl).2
      have cv : wr.cell? ⟨g, xn, none⟩ = some (.int .u64 (vs.getD xn 0)) := by
        rw [cellNext hgl hbw, HV.out.cellAt xn (by have := HNV.out; omega)]
        simp [u64s, List.getElem?_eq_getElem hxn]
      have zf : wr.frozen? ⟨H, i, none⟩ = false := HT.out.frozenAt i
      obtain ⟨zz, zc⟩ : ∃ z, wr.cell? ⟨H, i, none⟩ = some z := ⟨_, (HT.out.cellAt i (by omega)).trans (List.getElem?_eq_getElem (by rw [HT.out.1]; omega))⟩
      rw [Int.toNat_natCast] at HNX
      obtain ⟨y, hy⟩ : ∃ y, vs.getD xn 0 = y := ⟨_, rfl⟩
      rw [hy] at cv HNX
      have HLT := Lib.hid hlt
      have k0 : (0 : Int) ≤ (i : Int) := by omega
      have k1 : (i : Int) < (nl : Int) := by omega
      have v0 : (0 : Int) ≤ (xn : Int) := by omega
      clear hx hy hil hlt hbw hb1 x0 hxn hgl
      go_wp2_with fail
      go_roundw
      case rel =>
        obtain ⟨a, b⟩ := HT.out.stored i (.int .u64 y)
        rw [HNX.out] at a
        exact ⟨i + 1, HLT.out, by go_num, a, HB.out.setCell (p := ⟨H, i, none⟩) (Nat.le_refl _) _⟩
      case measure => have := HLT.out; simp [intOf]; omega
    · have hd : decide (i < nl) = false := by simp; omega
      have HF := Lib.hid (show wr.ownsRow 0 41 1 (.slice (some ⟨H, 0, none⟩) nl nl) nl (u64s (pickE vs l)) by
        have h := HT.out
        rw [show i = l.length by have := HNL.out; omega, pickT_all] at h
        exact h)
      clear hlt
      go_wp2_with fail
      go_ret
      exact ⟨rfl, HF.out, HB.out⟩
end Go.Proofs.Ytkalgiaapkjplaa

namespace Go.Proofs.Ytkalgiaapkjplaa
open Go.RowKit

theorem wpList_append_fits {P : Program} {w : World} {ops : Array Oper} {rest : List Oper} {o : Oper} {a : Act} {Q : Exit → Act → World → Prop} (hgd : o.guard = none) (s x : Operand) (t : TypeId)
    (ho : o.op = .call { callee := .builtin .append, args := #[s, x], argTypes := #[t, t] })
    (base : Nat) (e : TypeId) (i : TypeInfo) (size : Nat) (ht : P.underlying t = some (.slice e)) (hi : P.info? e = some i) (hsize : i.size = size)
    (g n cap : Nat) (xs : List Value) (hs : a.eval s = .slice (some ⟨g, 0, none⟩) n cap) (hown : w.ownsRow base e size (.slice (some ⟨g, 0, none⟩) n cap) n xs)
    (ad : Addr) (m c : Nat) (news : List Value) (hx : a.eval x = .slice (some ad) m c) (hl : news.length = m * size) (hnews : ∀ j u, news[j]? = some u → w.cell? (ad.add j) = some u) (h1 : ∀ u ∈ news, u.oneCell' = true) (hroom : n + m ≤ cap)
    (h : ∀ w', w'.ownsRow base e size (.slice (some ⟨g, 0, none⟩) (n + m) cap) (n + m) (xs ++ news) → w.grownBy w' (some g) → wpList P ops Q rest (a.put o.dst (.slice (some ⟨g, 0, none⟩) (n + m) cap)) w') : wpList P ops Q (o :: rest) a w := by
  refine wpList_plain hgd fun K hK => ?_
  obtain ⟨w', hrun, r1, r2⟩ := run_append_fits (P := P) w base t o.type e i size ht hi hsize g n cap xs hown ad m c news hl hnews h1 hroom
  unfold Oper.wp
  simp [execOp, ho, resolve, invoke, builtin, hs, hx, hrun, Result.andThen]
  exact hK _ _ (h w' r1 r2)
theorem add_at (g j : Nat) : (⟨g, 0, none⟩ : Addr).add j = ⟨g, j, none⟩ := by unfold Addr.add; split <;> simp_all
theorem u64s_one (l : List Int) : ∀ u ∈ u64s l, u.oneCell' = true := by
  intro u hu
  obtain ⟨x, _, rfl⟩ := List.mem_map.1 hu
  rfl
theorem own_cells {w : World} {e : TypeId} {g n cap : Nat} {xs : List Value} (h : w.ownsRow 0 e 1 (.slice (some ⟨g, 0, none⟩) n cap) n xs) : ∀ j u, xs[j]? = some u → w.cell? ((⟨g, 0, none⟩ : Addr).add j) = some u := by
  intro j u hj
  rw [add_at, h.cellAt j (by have := (List.getElem?_eq_some_iff.1 hj).1; rw [h.1] at this; exact this), hj]
/-- what enter leaves -/
def EnterPost (og ocap n j k : Nat) (xs : List Value) (cap : Nat) (hd : List Int) (w : World) (e : Ending) (w' : World) : Prop :=
  (∃ v, e = .returned v) ∧ ∃ g, w.heap.size ≤ g ∧ g < w'.heap.size ∧ w.grownBy w' (some og) ∧
    w'.ownsRow 0 134 4 (.slice (some ⟨og, 0, none⟩) n ocap) n (((xs.set (j * 4 + 1) (.int .i64 k)).set (j * 4 + 2) (.int .i64 0)).set (j * 4 + 3) (.slice (some ⟨g, 0, none⟩) hd.length cap)) ∧
    w'.ownsRow 0 41 1 (.slice (some ⟨g, 0, none⟩) hd.length cap) hd.length (u64s hd)
/-- what a block is handed: nothing, or some numbers of a row -/
def Handed (w : World) (og : Nat) (hv : Value) (hd : List Int) : Prop := (hv = .slice none 0 0 ∧ hd = []) ∨ ∃ hb ch, hv = .slice (some ⟨hb, 0, none⟩) hd.length ch ∧ hb ≠ og ∧ w.ownsRow 0 41 1 hv hd.length (u64s hd)
set_option maxRecDepth 100000 in
set_option maxHeartbeats 4000000 in
theorem enter_any (og ocap n j k cap : Nat) (xs : List Value) (bb bo nb bc : Nat) (b : Bk) (hv : Value) (hd : List Int) (w : World) (hj : j < n)
    (hop : w.ownsRow 0 134 4 (.slice (some ⟨og, 0, none⟩) n ocap) n xs) (hx : xs[j * 4]? = some (.slice (some ⟨bb, bo, none⟩) nb bc)) (hk : k < nb) (hbb : bb ≠ og)
    (hB : BkAt w bb (bo + k * 8) b) (hcap : (cap : Int) = b.p + b.i.length) (hc6 : cap ≤ 44) (hH : Handed w og hv hd) (hfit : hd.length ≤ cap) :
    Calls Try.prog 115 #[.pointer (some ⟨og, j * 4, none⟩), .int .i64 k, hv] w (EnterPost og ocap n j k xs cap hd w) := by
  obtain ⟨o1, g1⟩ := hop.stored (j * 4 + 1) (.int .i64 k)
  obtain ⟨o2, g2⟩ := o1.stored (j * 4 + 2) (.int .i64 0)
  have hlen : xs.length = n * 4 := hop.1
  have ex : ∀ (W : World) (ys : List Value) (i : Nat), W.ownsRow 0 134 4 (.slice (some ⟨og, 0, none⟩) n ocap) n ys → i < n * 4 → ∃ z, W.cell? ⟨og, i, none⟩ = some z := fun W ys i h hi => ⟨_, (h.cellAt i hi).trans (List.getElem?_eq_getElem (by rw [h.1]; exact hi))⟩
  obtain ⟨e1, z1⟩ := ex _ _ (j * 4 + 1) hop (by omega)
  obtain ⟨e2, z2⟩ := ex _ _ (j * 4 + 2) o1 (by omega)
  have f1 : w.frozen? ⟨og, j * 4 + 1, none⟩ = false := hop.frozenAt _
  have f2 : (w.setCell ⟨og, j * 4 + 1, none⟩ (.int .i64 k)).frozen? ⟨og, j * 4 + 2, none⟩ = false := o1.frozenAt _
  obtain ⟨W2, hW2⟩ : ∃ W2, ((w.setCell ⟨og, j * 4 + 1, none⟩ (.int .i64 k)).setCell ⟨og, j * 4 + 2, none⟩ (.int .i64 0)) = W2 := ⟨_, rfl⟩
  have gW : w.grownBy W2 (some og) := by
    rw [← hW2]
    exact ⟨g2.os.trans g1.os, g2.tape.trans g1.tape, g2.output.trans g1.output, Nat.le_trans g1.size g2.size, fun q hq hn => (g2.block q (Nat.lt_of_lt_of_le hq g1.size) hn).trans (g1.block q hq hn)⟩
  have hbl : bb < w.heap.size := World.block_lt_of_cell? w _ hB.1
  have cb : ∀ o, W2.cell? ⟨bb, o, none⟩ = w.cell? ⟨bb, o, none⟩ := fun o => World.cell?_of_block (gW.block bb hbl (by simpa using hbb))
  rw [hW2] at o2
  have c0 : W2.cell? ⟨og, j * 4, none⟩ = some (.slice (some ⟨bb, bo, none⟩) nb bc) := by
    rw [o2.cellAt _ (by omega), List.getElem?_set_ne (by omega), List.getElem?_set_ne (by omega), hx]
  obtain ⟨b0, ⟨Ai, ci, b1, -⟩, b2, b3, b4, ⟨Al, cl, b5, -⟩, b6, Am, cm, b7, -⟩ := hB
  rw [← cb] at b0 b1 b2 b3 b4 b5 b6 b7
  have HV := Lib.hid (fun W => values_any b.p b.e.k b.e.a b.e.t b.e.e Ai b.i.length ci (.slice Al b.e.l.length cl) (.slice Am b.e.m.length cm) W)
  rw [← hcap, show wrap64 (cap : Int) = cap by unfold wrap64; omega] at HV
  obtain ⟨xp, hxp⟩ : ∃ x, b.p = x := ⟨_, rfl⟩
  obtain ⟨xi, hxi⟩ : ∃ x, b.i.length = x := ⟨_, rfl⟩
  obtain ⟨xk, hxk⟩ : ∃ x, b.e.k = x := ⟨_, rfl⟩
  obtain ⟨xa, hxa⟩ : ∃ x, b.e.a = x := ⟨_, rfl⟩
  obtain ⟨xt, hxt⟩ : ∃ x, b.e.t = x := ⟨_, rfl⟩
  obtain ⟨xl, hxl⟩ : ∃ x, b.e.l.length = x := ⟨_, rfl⟩
  obtain ⟨xe, hxe⟩ : ∃ x, b.e.e = x := ⟨_, rfl⟩
  obtain ⟨xm, hxm⟩ : ∃ x, b.e.m.length = x := ⟨_, rfl⟩
  rw [hxp] at b0 HV
  rw [hxi] at b1 HV
  rw [hxk] at b2 HV
  rw [hxa] at b3 HV
  rw [hxt] at b4 HV
  rw [hxl] at b5 HV
  rw [hxe] at b6 HV
  rw [hxm] at b7 HV
  have HG := Lib.hid gW
  have HO := Lib.hid o2
  have HH := Lib.hid hH
  have HFIT := Lib.hid hfit
  have HC := Lib.hid hc6
  have HJ := Lib.hid hj
  have HLW := Lib.hid (show W2.heap.size = w.heap.size by rw [← hW2]; simp)
  have k0 : (0 : Int) ≤ (k : Int) := by omega
  have k1 : (k : Int) < (nb : Int) := by omega
  clear o1 g1 g2 ex gW hop hx hk hbb hcap hc6 hH hfit hbl cb hlen hxp hxi hxk hxa hxt hxl hxe hxm o2 hj
  go_enter Try.func115, Try.ntmps115
  go_wp2_with fail
  refine (HV.out _).mono ?_
  rintro e w3 ⟨rfl, hb3⟩
  obtain ⟨i0, hi, hz0, hz1, hz2⟩ := info_three u64_info
  obtain ⟨w4, hmk, hown4, hgr4⟩ := run_makeSlice_owned (P := Try.prog) w3 0 105 41 i0 _ 1 Try.underlying105 hi hz0 hz1 .i64 .i64 cap (by have := HC.out; omega) (by have := HC.out; rw [hz2]; omega) (by have := HC.out; unfold maxLen; omega) (Nat.zero_le _)
  have HO3 := Lib.hid (own_same HO.out (fun g hg hl => hb3.block g hl))
  have HO4 := Lib.hid (HO3.out.kept hgr4 (.inr (by simp [Value.ownBlock])))
  have G4 := Lib.hid (show w.grownBy w4 (some og) by
    have h := HG.out
    have hlw := HLW.out
    exact ⟨hgr4.os.trans (hb3.os.trans h.os), hgr4.tape.trans (hb3.tape.trans h.tape), hgr4.output.trans (hb3.output.trans h.output), Nat.le_trans h.size (Nat.le_trans hb3.size hgr4.size), fun q hq hn => (hgr4.block q (by have := hb3.size; omega) (by simp)).trans ((hb3.block q (by omega)).trans (h.block q hq hn))⟩)
  have HGL := Lib.hid (show w.heap.size ≤ w3.heap.size by have h := HG.out.size; have := hb3.size; omega)
  have HOG := Lib.hid (show og < w.heap.size from by have h := (HO.out.lt og rfl).2; have := HLW.out; omega)
  obtain ⟨g, hg⟩ : ∃ g, w3.heap.size = g := ⟨_, rfl⟩
  rw [hg] at hmk hown4 HGL
  have HR4 := Lib.hid hown4
  have HFIN := Lib.hid (fun (w5 : World) (h5 : w5.ownsRow 0 41 1 (.slice (some ⟨g, 0, none⟩) hd.length cap) hd.length (u64s hd)) (g5 : w4.grownBy w5 (some g)) =>
    (show EnterPost og ocap n j k xs cap hd w (.returned (.tuple #[])) (w5.setCell ⟨og, j * 4 + 3, none⟩ (.slice (some ⟨g, 0, none⟩) hd.length cap)) ∧ w5.frozen? ⟨og, j * 4 + 3, none⟩ = false ∧ ∃ z, w5.cell? ⟨og, j * 4 + 3, none⟩ = some z by
      have hne : og ≠ g := by have h1 := HGL.out; have h2 := HOG.out; omega
      have o5 := HO4.out.kept g5 (.inr (by simpa [Value.ownBlock] using hne))
      obtain ⟨o6, g6⟩ := o5.stored (j * 4 + 3) (.slice (some ⟨g, 0, none⟩) hd.length cap)
      have h4 := G4.out
      have hgl := HGL.out
      refine ⟨⟨⟨_, rfl⟩, g, HGL.out, Nat.lt_of_lt_of_le (h5.lt g rfl).2 g6.size, ⟨g6.os.trans (g5.os.trans h4.os), g6.tape.trans (g5.tape.trans h4.tape), g6.output.trans (g5.output.trans h4.output), Nat.le_trans h4.size (Nat.le_trans g5.size g6.size), fun q hq hn => (g6.block q (Nat.lt_of_lt_of_le hq (Nat.le_trans h4.size g5.size)) hn).trans ((g5.block q (Nat.lt_of_lt_of_le hq h4.size) (by simp; omega)).trans (h4.block q hq hn))⟩, o6, h5.kept g6 (.inr (by simpa [Value.ownBlock] using hne.symm))⟩, o5.frozenAt _, ⟨_, (o5.cellAt _ (by have := HJ.out; omega)).trans (List.getElem?_eq_getElem (by rw [o5.1]; have := HJ.out; omega))⟩⟩))
  clear hown4 hgr4 hb3 hg hz0 hz2 b0 b1 b2 b3 b4 b5 b6 b7 c0 f1 f2 z1 z2 hW2
  have hHH := HH.out
  clear HH
  rcases hHH with ⟨e1, e2⟩ | ⟨hb, ch, e1, HNE, hr⟩
  · subst e1
    subst e2
    obtain ⟨hp, z3, zz, c3⟩ := HFIN.out w4 HR4.out ⟨rfl, rfl, rfl, Nat.le_refl _, fun _ _ _ => rfl⟩
    have HP := Lib.hid hp
    clear hp HFIN
    go_wp2_with (at_builtin; refine wpList_append_own_none rfl _ _ _ rfl 0 41 i0 1 Try.underlying105 hi (.slice (some ⟨g, 0, none⟩) 0 cap) 0 [] rfl HR4.out rfl ?_)
    exact bodyPost_end (results_none Try.results115 _ _ _) rfl HP.out
  · subst e1
    obtain ⟨nh, hnh⟩ : ∃ x, hd.length = x := ⟨_, rfl⟩
    rw [hnh] at hr HFIN HFIT
    have HRW := Lib.hid (show w4.ownsRow 0 41 1 (.slice (some ⟨hb, 0, none⟩) nh ch) nh (u64s hd) from hr.kept G4.out (.inr (by simpa [Value.ownBlock] using HNE)))
    clear hr HNE
    rw [hnh]
    go_wp2_with (at_builtin; refine wpList_append_fits rfl _ _ _ rfl 0 41 i0 1 Try.underlying105 hi hz1 g 0 cap [] rfl HR4.out ⟨hb, 0, none⟩ nh ch (u64s hd) rfl (by have := HRW.out.1; omega) (own_cells HRW.out) (u64s_one hd) (by have := HFIT.out; omega) ?_; intro w5 h5 g5; simp only [Nat.zero_add, List.nil_append] at h5 ⊢; obtain ⟨hp, z3, zz, c3⟩ := HFIN.out w5 h5 g5; have HP := Lib.hid hp; clear hp h5 g5)
    exact bodyPost_end (results_none Try.results115 _ _ _) rfl HP.out
end Go.Proofs.Ytkalgiaapkjplaa

namespace Go.Proofs.Ytkalgiaapkjplaa
open Go.RowKit

theorem call_info : (Try.prog.info? 134).map (fun i => (i.zero, i.size, i.bytes)) = some (some (.agg #[.slice none 0 0, .int .i64 0, .int .i64 0, .slice none 0 0]), 4, 64) := by kernel_rfl
theorem bytes_info : (Try.prog.info? 5).map (fun i => (i.zero, i.size, i.bytes)) = some (some (.int .u8 0), 1, 1) := by kernel_rfl
section
variable {W0 : World} {m : Md} {inp : ByteArray} {R : Nat} {L : Lay} {s : Rs}
/-- behind the append of a call that has no values yet -/
structure Push1 (inp : ByteArray) (R : Nat) (L : Lay) (s : Rs) (u0 : World) (og ocap : Nat) (bv : Value) (u2 : World) : Prop where
  same : ∀ k, k < u0.heap.size → L.lab k ≠ 1 → L.lab k ≠ 4 → u2.heap[k]? = u0.heap[k]?
  size : u0.heap.size ≤ u2.heap.size
  os : u2.os = u0.os
  tape : u2.tape = u0.tape
  output : u2.output = u0.output
  at_ : L.lab og = 4 ∨ u0.heap.size ≤ og
  lt : og < u2.heap.size
  hop : u2.ownsRow 0 134 4 (.slice (some ⟨og, 0, none⟩) (L.gs.length + 1) ocap) (L.gs.length + 1) (gcsV L.gs ++ [bv, .int .i64 0, .int .i64 0, .slice none 0 0])
  hR : u2.heap[R]? = some (.cells (rcells inp { L with opv := .slice (some ⟨og, 0, none⟩) (L.gs.length + 1) ocap } s) 102 (0, 0))
theorem push1_of {u0 w1 : World} {o : Obj} {og ocap : Nat} {bv : Value} (h : RunOk W0 m inp R L s u0) (hg : (u0.alloc o).grownBy w1 L.opv.ownBlock) (hat : L.opv.ownBlock = some og ∨ og = (u0.alloc o).heap.size) (hlt : og < w1.heap.size)
    (ho : w1.ownsRow 0 134 4 (.slice (some ⟨og, 0, none⟩) (L.gs.length + 1) ocap) (L.gs.length + 1) (gcsV L.gs ++ [bv, .int .i64 0, .int .i64 0, .slice none 0 0])) :
    Push1 inp R L s u0 og ocap bv (w1.setCell ⟨R, 10, none⟩ (.slice (some ⟨og, 0, none⟩) (L.gs.length + 1) ocap)) ∧ w1.cell? ⟨R, 10, none⟩ = some L.opv ∧ w1.frozen? ⟨R, 10, none⟩ = false ∧ w1.cell? ⟨R, 8, none⟩ = some (.map (some L.fm)) ∧ w1.ownsMap Try.prog 9 slR L.fm L.fn L.FD := by
  have hat' : L.lab og = 4 ∨ u0.heap.size ≤ og := hat.elim (fun e => .inl (h.top og e)) (fun e => .inr (by rw [e]; simp))
  have hRl : R < u0.heap.size := (Array.getElem?_eq_some_iff.1 h.hR).1
  have hne : og ≠ R := fun e => by
    subst e
    rcases hat' with h1 | h1
    · rw [h.tR] at h1; cases h1
    · omega
  have q1 : ∀ k, k < u0.heap.size → L.lab k ≠ 4 → w1.heap[k]? = u0.heap[k]? := fun k hk hl =>
    (hg.block k (by simp; omega) (fun e => hl (h.top k e.symm))).trans (heap_alloc_old u0 o hk)
  have hR1 : w1.heap[R]? = some (.cells (rcells inp L s) 102 (0, 0)) := (q1 R hRl (by rw [h.tR]; decide)).trans h.hR
  refine ⟨{ same := fun k hk h1 h4 => (heap_setCell_other w1 ⟨R, 10, none⟩ k _ (fun e => h1 (by rw [show k = R from e, h.tR]))).trans (q1 k hk h4), size := ?_, os := hg.os, tape := hg.tape, output := hg.output, at_ := hat', lt := by simpa using hlt, hop := own_same ho (fun g hg' _ => heap_setCell_other w1 ⟨R, 10, none⟩ g _ (by cases hg'; exact hne)), hR := heap_setCell_same w1 R 10 _ _ _ hR1 }, Lib.cell_of_heap hR1 10, frozen_of_row w1 R 10 _ _ hR1, Lib.cell_of_heap hR1 8, map_same h.hf (fun hk => q1 _ hk (by rw [h.tf]; decide))⟩
  have := hg.size
  simp at this ⊢
  omega
theorem Push1.drew {u0 u2 : World} {og ocap : Nat} {bv : Value} (h : Push1 inp R L s u0 og ocap bv u2) : Push1 inp R L s u0 og ocap bv u2.drew :=
  { same := h.same, size := h.size, os := h.os, tape := h.tape, output := h.output, at_ := h.at_, lt := h.lt, hop := h.hop, hR := h.hR }
theorem Push1.map {u0 u2 : World} {og ocap : Nat} {bv : Value} (h : RunOk W0 m inp R L s u0) (hp : Push1 inp R L s u0 og ocap bv u2) : u2.cell? ⟨R, 8, none⟩ = some (.map (some L.fm)) ∧ u2.ownsMap Try.prog 9 slR L.fm L.fn L.FD :=
  ⟨Lib.cell_of_heap hp.hR 8, map_same h.hf (fun hk => hp.same _ hk (by rw [h.tf]; decide) (by rw [h.tf]; decide))⟩
/-- the call is open -/
theorem push_ok {u0 u2 w3 u3 : World} {og ocap cap : Nat} {bv : Value} {bs : List Bk} {b0 : Bk} {hd : List Int} {e : Ending} {D : Nat} (h : RunOk W0 m inp R L s u0) (hp : Push1 inp R L s u0 og ocap bv u2)
    (he : EnterPost og ocap (L.gs.length + 1) L.gs.length 0 (gcsV L.gs ++ [bv, .int .i64 0, .int .i64 0, .slice none 0 0]) cap hd u2 e w3) (h3 : u3.heap = w3.heap) (e1 : u3.os = w3.os) (e2 : u3.tape = w3.tape) (e3 : u3.output = w3.output)
    (hB : Blocks W0 bv bs) (hb0 : bs[0]? = some b0) (hcap : (cap : Int) = b0.p + b0.i.length) :
    ∃ L', RunOk W0 m inp R L' { s with deep := D, cs := ⟨bs, 0, 0, hd⟩ :: s.cs } (u3.setCell ⟨R, 5, none⟩ (.int .i64 D)) ∧ Fr L u0 (u3.setCell ⟨R, 5, none⟩ (.int .i64 D)) L' ∧ L'.gn = L.gn := by
  obtain ⟨-, g, hg0, hg1, hgr, ho, hv⟩ := he
  have hRl : R < u0.heap.size := (Array.getElem?_eq_some_iff.1 h.hR).1
  have hogR : og ≠ R := fun e => by
    subst e
    rcases hp.at_ with h1 | h1
    · rw [h.tR] at h1; cases h1
    · omega
  have hsz := hp.size
  have hgR : g ≠ R := by omega
  have hgo : g ≠ og := by have := hp.lt; omega
  have q3 : ∀ k, k < u2.heap.size → k ≠ og → u3.heap[k]? = u2.heap[k]? := fun k hk hn => by
    rw [h3]
    exact hgr.block k hk (by simpa using hn)
  have hR3 : u3.heap[R]? = some (.cells (rcells inp { L with opv := .slice (some ⟨og, 0, none⟩) (L.gs.length + 1) ocap } s) 102 (0, 0)) := (q3 R (by omega) hogR.symm).trans hp.hR
  have q4 : ∀ k, k ≠ R → (u3.setCell ⟨R, 5, none⟩ (.int .i64 D)).heap[k]? = u3.heap[k]? := fun k hk => heap_setCell_other u3 ⟨R, 5, none⟩ k _ hk
  have hs4 : (u3.setCell ⟨R, 5, none⟩ (.int .i64 D)).heap.size = w3.heap.size := by simp [h3]
  have hs3 := hgr.size
  have q : ∀ k, k < u0.heap.size → L.lab k ≠ 1 → L.lab k ≠ 4 → (u3.setCell ⟨R, 5, none⟩ (.int .i64 D)).heap[k]? = u0.heap[k]? := fun k hk h1 h4 =>
    (q4 k (fun e => h1 (by rw [e, h.tR]))).trans ((q3 k (by omega) (fun e => by
      subst e
      rcases hp.at_ with h5 | h5
      · exact h4 h5
      · omega)).trans (hp.same k hk h1 h4))
  refine ⟨{ L with opv := .slice (some ⟨og, 0, none⟩) (L.gs.length + 1) ocap, gs := L.gs ++ [⟨⟨bs, 0, 0, hd⟩, bv, g, cap⟩], lab := fun k => if k = g then L.gs.length + 6 else if k = og then 4 else L.lab k }, ?_, ?_, rfl⟩
  · refine h.top' ⟨[], by simp⟩ ⟨?_, ?_, ?_, ?_, fun k hk => q k (Nat.lt_of_lt_of_le hk h.bel.size) (by rw [h.low k hk]; decide) (by rw [h.low k hk]; decide)⟩ (fun k hk h1 h4 _ => q k hk h1 h4) ?_ ?_ ?_ ?_ ?_ ?_ ?_ ⟨hB, b0, hb0, hcap⟩ ?_ rfl rfl ?_ (Nat.le_refl _)
    · exact e1.trans (hgr.os.trans hp.os)
    · exact e2.trans (hgr.tape.trans hp.tape)
    · exact e3.trans (hgr.output.trans hp.output)
    · omega
    · intro k h0 h4 h6
      have k1 : k ≠ g := fun e => h0 (h.high k (by omega))
      have k2 : k ≠ og := fun e => by
        subst e
        rcases hp.at_ with h5 | h5
        · exact h4 h5
        · exact h0 (h.high k h5)
      simp only [if_neg k1, if_neg k2]
    · intro k hk
      have hk' := Nat.lt_of_lt_of_le hk h.bel.size
      have k1 : k ≠ g := by omega
      have k2 : k ≠ og := fun e => by
        subst e
        rcases hp.at_ with h5 | h5
        · rw [h.low k hk] at h5; cases h5
        · omega
      simp only [if_neg k1, if_neg k2]
      exact h.low k hk
    · intro k hk
      rw [hs4] at hk
      have k1 : k ≠ g := by omega
      have k2 : k ≠ og := by have := hp.lt; omega
      simp only [if_neg k1, if_neg k2]
      exact h.high k (by omega)
    · have ho' := own_same (W := w3) (W' := u3.setCell ⟨R, 5, none⟩ (.int .i64 D)) ho (fun q hq _ => by cases hq; rw [q4 _ hogR, h3])
      have ex : (((gcsV L.gs ++ [bv, .int .i64 0, .int .i64 0, .slice none 0 0]).set (L.gs.length * 4 + 1) (.int .i64 (0 : Nat))).set (L.gs.length * 4 + 2) (.int .i64 0)).set (L.gs.length * 4 + 3) (.slice (some ⟨g, 0, none⟩) hd.length cap) = gcsV (L.gs ++ [⟨⟨bs, 0, 0, hd⟩, bv, g, cap⟩]) := by
        rw [gcsV_snoc]
        have e := gcsV_length L.gs
        rw [List.set_append_right _ _ (by omega), List.set_append_right _ _ (by omega), List.set_append_right _ _ (by omega), e]
        simp only [Nat.add_sub_cancel_left]
        rfl
      rw [ex] at ho'
      exact ho'
    · intro q hq
      cases hq
      simp only [if_neg hgo.symm, if_true]
    · exact own_same (W := w3) (W' := u3.setCell ⟨R, 5, none⟩ (.int .i64 D)) hv (fun q hq _ => by cases hq; rw [q4 _ hgR, h3])
    · simp only [if_true]
    · exact heap_setCell_same u3 R 5 _ _ _ hR3
    · simp [h.hcs]
  · refine ⟨by omega, fun k hk h0 => ⟨q k hk (by omega) (by omega), ?_⟩⟩
    have k1 : k ≠ g := by omega
    have k2 : k ≠ og := fun e => by
      subst e
      rcases hp.at_ with h5 | h5
      · rw [h0] at h5; cases h5
      · omega
    simp only [if_neg k1, if_neg k2]
    exact h0
end
end Go.Proofs.Ytkalgiaapkjplaa
