/- What the texts of package resolve stand on, of the packages ir and pick (part 2). -/
import Derived.Test.YtpifndpbmjmglaaHE0
namespace Go.Proofs.Ytpifndpbmjmglaa
open Go.RowKit Go.Shelf
attribute [local go_sem] Oper.semAt_some
/-- a row of places in a page that is there -/
def InPg (m : List M.Pg) (s : M.Str) : Prop := s.Ok ∧ ∃ (i : Nat) (h : i < m.length), M.low m s.pg = i ∧ M.there m s.pg = true ∧ m[i].d.size = 256
end Go.Proofs.Ytpifndpbmjmglaa
namespace Go.Proofs.Ytpifndpbmjmglaa
open Go.RowKit
/-- pages whose places are numbers of 64 bits -/
structure Wf (m : List M.Pg) : Prop where
  len : m.length ≤ 9223372036854775807
  a0 : ∀ x ∈ m, 0 ≤ x.a
  a1 : ∀ x ∈ m, x.a ≤ 18446744073709551615
def numErr (m : List M.Pg) (a n perm : Int) : Int :=
  if n < 1 ∨ 8 < n ∨ rightB m = false then 1 else if allGrantB m a n perm = false then 6 else 0
def fillErr (m : List M.Pg) (a n : Int) : Int := if rightB m = false then 1 else if allGrantB m a n 0 = false then 8 else 0
set_option maxHeartbeats 1000000 in
theorem fillErr_any {m : List M.Pg} {v : Value} (a : Int) (s : ByteArray) {w : World} (hP : Pages w v m) (hw : Wf m) (a0 : 0 ≤ a) (a1 : a ≤ 18446744073709551615) (hs : s.size ≤ 9223372036854775807) :
    Calls Try.prog 41 #[v, .int .u64 a, .string s] w fun e w' => e = .returned (.int .i64 (fillErr m a s.size)) ∧ Below w.heap.size w w' := by
  have HR := Lib.hid (right_any hP hw.len hw.a0)
  have HG := Lib.hid (fun (hr : rightB m = true) (W : World) (hb : Below w.heap.size w W) =>
    allGrant_any a s.size 0 (hP.next hb) (Nat.le_trans (Right.of hr hw.a0 hw.a1).len (by omega)) (Right.of hr hw.a0 hw.a1).up a0 a1 (by omega))
  obtain ⟨A, cap, hv⟩ := hP.slice
  obtain ⟨nv, hnv⟩ : ∃ nv, m.length = nv := ⟨_, rfl⟩
  rw [hnv] at hv
  subst hv
  clear hP hnv hw
  cases hr : rightB m
  · have HE := Lib.hid (show fillErr m a s.size = 1 by simp [fillErr, hr])
    rw [hr] at HR
    clear hr
    go_enter Try.func41, Try.ntmps41
    go_wp2_with fail
    refine HR.out.mono ?_
    rintro e w1 ⟨rfl, hb1⟩
    have HB1 := Lib.hid hb1
    clear hb1
    go_wp2_with fail
    go_ret
    exact ⟨by rw [HE.out]; rfl, HB1.out⟩
  · have HG2 := Lib.hid (fun (W : World) (hb : Below w.heap.size w W) => HG.out hr W hb)
    rw [hr] at HR
    have HE := Lib.hid (show fillErr m a s.size = bif allGrantB m a s.size 0 then 0 else 8 by cases h : allGrantB m a s.size 0 <;> simp [fillErr, hr, h])
    cases hg : allGrantB m a s.size 0
    all_goals
      rw [hg] at HG2 HE
      clear hr hg
      go_enter Try.func41, Try.ntmps41
      go_wp2_with fail
      refine HR.out.mono ?_
      rintro e w1 ⟨rfl, hb1⟩
      have HB1 := Lib.hid hb1
      clear hb1
      go_wp2_with fail
      refine (HG2.out _ HB1.out).mono ?_
      rintro e w2 ⟨rfl, hb2⟩
      have HB2 := Lib.hid (bthen HB1.out hb2)
      clear hb2
      go_wp2_with fail
      go_ret
      exact ⟨by rw [HE.out]; rfl, HB2.out⟩
/-- what is granted has its pages -/
theorem granted_in {m : List M.Pg} (hr : M.Right m) {a k perm : Int} (a0 : 0 ≤ a) (a1 : a ≤ 18446744073709551615) (hg : allGrantB m a k perm = true) :
    a + k ≤ 18446744073709551616 ∧ ∀ s ∈ M.strs a k, InPg m s := by
  simp only [allGrantB, Bool.and_eq_true, Bool.not_eq_true', List.all_eq_true] at hg
  obtain ⟨hb, hg⟩ := hg
  have hk : a + k ≤ 18446744073709551616 := by simp [beyondB] at hb; omega
  refine ⟨hk, fun s hs => ⟨(M.strs_ok a0 hk s hs).1, ?_⟩⟩
  have h := hg s hs
  simp only [grantB, Bool.and_eq_true] at h
  obtain ⟨h1, h2⟩ := (M.there_iff hr.up s.pg).1 h.1
  exact ⟨_, h1, rfl, h.1, hr.size h1⟩
/-- what Load comes to -/
def loadV (m : List M.Pg) (a n perm : Int) : Int := if numErr m a n perm = 0 then M.num (M.bytesOf m a n.toNat) else 0
end Go.Proofs.Ytpifndpbmjmglaa
namespace Go.Proofs.Ytpifndpbmjmglaa
open Go.RowKit
/-- a page's cells -/
def pgCells (x : M.Pg) : List Value := [.int .u64 x.a, .int .i64 x.p, .string x.d]
def cellsOf (m : List M.Pg) : List Value := m.flatMap pgCells
theorem cellsOf_length (m : List M.Pg) : (cellsOf m).length = m.length * 3 := by
  induction m with
  | nil => rfl
  | cons x m ih => simp only [cellsOf, List.flatMap_cons, List.length_append, List.length_cons] at ih ⊢; rw [ih]; simp [pgCells]; omega
theorem cellsOf_append (m k : List M.Pg) : cellsOf (m ++ k) = cellsOf m ++ cellsOf k := by simp [cellsOf]
theorem cellsOf_one : ∀ (m : List M.Pg), ∀ u ∈ cellsOf m, u.oneCell' = true := by
  intro m u hu
  simp only [cellsOf, List.mem_flatMap, pgCells, List.mem_cons, List.not_mem_nil, or_false] at hu
  obtain ⟨x, _, rfl | rfl | rfl⟩ := hu <;> rfl
theorem cellsOf_at (m : List M.Pg) (i : Nat) (h : i < m.length) : (cellsOf m)[i * 3]? = some (.int .u64 m[i].a) ∧ (cellsOf m)[i * 3 + 1]? = some (.int .i64 m[i].p) ∧ (cellsOf m)[i * 3 + 2]? = some (.string m[i].d) := by
  induction m generalizing i with
  | nil => simp at h
  | cons x m ih =>
    cases i with
    | zero => exact ⟨rfl, rfl, rfl⟩
    | succ i =>
      obtain ⟨h0, h1, h2⟩ := ih i (by simpa using h)
      have e : cellsOf (x :: m) = pgCells x ++ cellsOf m := rfl
      rw [e]
      refine ⟨?_, ?_, ?_⟩
      · rw [List.getElem?_append_right (by simp [pgCells]; omega), show (i + 1) * 3 - (pgCells x).length = i * 3 by simp [pgCells]; omega]; exact h0
      · rw [List.getElem?_append_right (by simp [pgCells]; omega), show (i + 1) * 3 + 1 - (pgCells x).length = i * 3 + 1 by simp [pgCells]; omega]; exact h1
      · rw [List.getElem?_append_right (by simp [pgCells]; omega), show (i + 1) * 3 + 2 - (pgCells x).length = i * 3 + 2 by simp [pgCells]; omega]; exact h2
theorem PagesIn.cells {W : World} {b off : Nat} {m : List M.Pg} (h : PagesIn W b off m) : ∀ (j : Nat) (u : Value), (cellsOf m)[j]? = some u → W.cell? ⟨b, off + j, none⟩ = some u := by
  intro j u hu
  have hj : j < m.length * 3 := by have := (List.getElem?_eq_some_iff.1 hu).1; rwa [cellsOf_length] at this
  obtain ⟨i, r, hr, hi, rfl⟩ : ∃ i r, r < 3 ∧ i < m.length ∧ j = i * 3 + r := ⟨j / 3, j % 3, by omega, by omega, by omega⟩
  obtain ⟨h0, h1, h2⟩ := h.2 i hi
  obtain ⟨k0, k1, k2⟩ := cellsOf_at m i hi
  rcases (by omega : r = 0 ∨ r = 1 ∨ r = 2) with rfl | rfl | rfl
  · rw [Nat.add_zero] at hu ⊢; rw [k0] at hu; cases hu; exact h0
  · rw [k1] at hu; cases hu; exact h1
  · rw [k2] at hu; cases hu; exact h2
/-- a row of the call's own that holds pages -/
def OwnsP (W : World) (base : Nat) (v : Value) (m : List M.Pg) : Prop := W.ownsRow base 70 3 v m.length (cellsOf m)
theorem OwnsP.pages {W : World} {base : Nat} {v : Value} {m : List M.Pg} (h : OwnsP W base v m) : Pages W v m := by
  have h' : W.ownsRow base 70 3 v m.length (cellsOf m) := h
  by_cases hn : 0 < m.length
  · obtain ⟨g, cap, rfl, _, hg⟩ := h'.form hn
    refine .inr ⟨hn, g, 0, cap, rfl, hg, fun i hi => ?_⟩
    obtain ⟨k0, k1, k2⟩ := cellsOf_at m i hi
    refine ⟨?_, ?_, ?_⟩
    · rw [Nat.zero_add, h'.cellAt (i * 3) (by omega)]; exact k0
    · rw [Nat.zero_add, h'.cellAt (i * 3 + 1) (by omega)]; exact k1
    · rw [Nat.zero_add, h'.cellAt (i * 3 + 2) (by omega)]; exact k2
  · obtain rfl : m = [] := List.eq_nil_of_length_eq_zero (by omega)
    refine .inl ⟨rfl, ?_⟩
    obtain ⟨_, ⟨rfl, _⟩ | ⟨g, cap, cur, rfl, _⟩⟩ := h'
    · exact .inl rfl
    · exact .inr ⟨_, _, rfl⟩
theorem pg_add (b off j : Nat) : (⟨b, off, none⟩ : Addr).add j = ⟨b, off + j, none⟩ := by unfold Addr.add; split <;> simp_all
theorem pg_info : (Try.prog.info? 70).map (fun i => (i.zero, i.size, i.bytes)) = some (some (.agg #[.int .u64 0, .int .i64 0, .string ⟨#[]⟩]), 3, 32) := by kernel_rfl
/-- append of a slice of pages to one of the call's own -/
theorem wpList_append_pages {w : World} {ops : Array Oper} {rest : List Oper} {o : Oper} {a : Act} {Q : Exit → Act → World → Prop} (hgd : o.guard = none) (s x : Operand)
    (ho : o.op = .call { callee := .builtin .append, args := #[s, x], argTypes := #[28, 28] }) (base : Nat) (v : Value) (m k : List M.Pg) (hs : a.eval s = v) (hown : OwnsP w base v m)
    (u : Value) (hx : a.eval x = u) (hO : Pages w u k) (hn : (m.length + k.length) * 32 ≤ 140737488355328) (hbase : base ≤ w.heap.size)
    (h : ∀ v' w', OwnsP w' base v' (m ++ k) → w.grownBy w' v.ownBlock → wpList Try.prog ops Q rest (a.put o.dst v') w') : wpList Try.prog ops Q (o :: rest) a w := by
  obtain ⟨i0, hi, hz0, hz1, hz2⟩ := info_parts pg_info
  have fin : ∀ v' w', w'.ownsRow base 70 3 v' (m.length + k.length) (cellsOf m ++ cellsOf k) → w.grownBy w' v.ownBlock → wpList Try.prog ops Q rest (a.put o.dst v') w' := fun v' w' h1 h2 => by
    refine h v' w' ?_ h2
    unfold OwnsP
    rw [List.length_append, cellsOf_append]
    exact h1
  rcases hO with ⟨rfl, rfl | ⟨A, cap, rfl⟩⟩ | ⟨hm0, b, off, cap, rfl, hp⟩
  · exact wpList_append_own_none hgd s x 28 ho base 70 i0 3 Try.underlying28 hi v m.length (cellsOf m) hs hown hx (h v w (by simpa using hown) ⟨rfl, rfl, rfl, Nat.le_refl _, fun _ _ _ => rfl⟩)
  · exact wpList_append_own w hgd s x 28 ho base 70 i0 (.agg #[.int .u64 0, .int .i64 0, .string ⟨#[]⟩]) 3 32 Try.underlying28 hi hz0 hz1 hz2 rfl (by decide) v m.length (cellsOf m) hs hown A 0 cap [] hx rfl (fun j u hj => by simp at hj) (fun u hu => by cases hu) (by unfold maxLen; omega) (by simp at hn; omega) hbase (fun v' w' h1 h2 _ => fin v' w' (by simpa [cellsOf] using h1) h2)
  · exact wpList_append_own w hgd s x 28 ho base 70 i0 (.agg #[.int .u64 0, .int .i64 0, .string ⟨#[]⟩]) 3 32 Try.underlying28 hi hz0 hz1 hz2 rfl (by decide) v m.length (cellsOf m) hs hown ⟨b, off, none⟩ k.length cap (cellsOf k) hx (by rw [cellsOf_length]) (fun j u hj => by rw [pg_add]; exact hp.cells j u hj) (cellsOf_one k) (by unfold maxLen; omega) (by omega) hbase (fun v' w' h1 h2 _ => fin v' w' h1 h2)
/-- a new row of the call's own with these pages -/
def NewPages (m : List M.Pg) (w : World) (e : Ending) (w' : World) : Prop := ∃ v', e = .returned v' ∧ OwnsP w' w.heap.size v' m ∧ Below w.heap.size w w'
set_option maxRecDepth 100000 in
set_option maxHeartbeats 1000000 in
/-- slices.Clone: a new row with the same pages, or nil -/
theorem clone_any {m : List M.Pg} {v : Value} {w : World} (hP : Pages w v m) (hn : m.length * 32 ≤ 140737488355328) :
    Calls Try.prog 37 #[v] w (NewPages m w) := by
  have HN := Lib.hid hn
  clear hn
  have q22 : ∀ (W : World) (a : Option Addr) (n c n' c' : Nat), (binOp .eql 28 (.slice a n c) (.slice none n' c')).run Try.prog W = .ok (.bool a.isNone) W := fun W a n c n' c' => Lib.run_eql_slice_nil W _ _ a n c n' c' Try.underlying28
  have O0 := fun W : World => Lib.hid (show OwnsP (W.alloc (.cells #[] 70)) W.heap.size (.slice (some ⟨W.heap.size, 0, none⟩) 0 0) [] from ⟨rfl, .inr ⟨W.heap.size, 0, #[], rfl, Nat.le_refl _, heap_alloc_new _ _, Nat.le_refl _, by unfold maxLen; omega, rfl, rfl⟩⟩)
  rcases hP with ⟨rfl, rfl | ⟨a, cap, rfl⟩⟩ | ⟨h0, b, off, cap, rfl, hp⟩
  · go_enter Try.func37, Try.ntmps37
    go_wp2_with fail
    go_ret
    exact ⟨_, rfl, ⟨rfl, .inl ⟨rfl, rfl⟩⟩, Below.refl _ _⟩
  · go_enter Try.func37, Try.ntmps37
    go_wp2_with fail
    go_ret
    exact ⟨_, rfl, (O0 w).out, balloc (Below.refl _ _) _⟩
  · have HP := Lib.hid (show Pages (w.alloc (.cells #[] 70)) (.slice (some ⟨b, off, none⟩) m.length cap) m from .inr ⟨h0, b, off, cap, rfl, hp.next (balloc (Below.refl _ _) _)⟩)
    obtain ⟨n, hn⟩ : ∃ n, m.length = n := ⟨_, rfl⟩
    rw [hn] at HP ⊢
    have HNN := Lib.hid hn
    clear hn hp h0
    have H0 := O0 w
    clear O0
    go_enter Try.func37, Try.ntmps37
    go_wp2_with (at_builtin; refine wpList_append_pages rfl _ _ rfl w.heap.size _ [] m rfl H0.out _ rfl HP.out (by have := HN.out; simpa using this) (by simp) ?_; intro v' w1 hown hgrow)
    have HO := Lib.hid hown
    have HB := Lib.hid ((balloc (Below.refl _ w) _).grown hgrow (by simp) (fun k hk => by cases hk; exact Nat.le_refl _))
    clear hown hgrow
    go_wp2_with fail
    go_ret
    exact ⟨_, rfl, HO.out, HB.out⟩
end Go.Proofs.Ytpifndpbmjmglaa
namespace Go.Proofs.Ytpifndpbmjmglaa
open Go.RowKit
theorem laidOut : laidOutB Try.prog = true := by kernel_rfl
theorem keyed : Maps.Keyed Try.prog 109 := Maps.Keyed.of_law (deep_law_laid laidOut (m := 2) (by omega) (of_decide_eq_true (by kernel_rfl)) (by kernel_rfl) (by kernel_rfl))
theorem key_type : Try.prog.keyType 109 = true := by kernel_rfl
theorem key_cells : Try.prog.cellsOf 109 = 1 := by kernel_rfl
theorem u64_cells : Try.prog.cellsOf 22 = 1 := by kernel_rfl
theorem types_some : ∃ n, Try.prog.types.size = n + 1 := by
  have h : 0 < Try.prog.types.size := of_decide_eq_true (by kernel_rfl)
  exact ⟨Try.prog.types.size - 1, by omega⟩
theorem lits_one {P : Program} {k e : TypeId} {f : Field} {x : Int} (hk : P.underlying k = some (.struct #[f])) (hf : f.type = e) (ho : f.offset = 0) (hn : (f.name != "_") = true) (he : P.underlying e = some (.int .u64))
    (hw : (Lit.int .u64 x).wf = true) (hc : P.cellsOf k = 1) (hce : P.cellsOf e = 1) (n : Nat) : P.keyLits (n + 1 + 1) k [.int .u64 x] = some [.int .u64 x] := by
  simp [Program.keyLits, hk, hf, ho, hn, he, hw, hc, hce]
theorem key_some (x : Int) (h0 : 0 ≤ x) (h1 : x ≤ 18446744073709551615) : ∃ l, keyOf Try.prog 109 (.agg #[.int .u64 x]) = some l := by
  have hw : (Lit.int .u64 x).wf = true := WalkArith.wf_u64 ⟨h0, h1⟩
  obtain ⟨n, hn⟩ := types_some
  have hf : Value.formed Try.prog 109 (.agg #[.int .u64 x]) = true := by
    simp [Value.formed, Try.underlying109, key_cells]
  have hl := lits_one (P := Try.prog) Try.underlying109 rfl rfl rfl Try.underlying22 hw key_cells u64_cells n
  refine ⟨.string (keyBytes [.int .u64 x]), ?_⟩
  unfold keyOf
  rw [Try.underlying109, key_type, hf, hn]
  have e : (Value.agg #[Value.int .u64 x]).cells.toList = [.int .u64 x] := rfl
  rw [e, hl]
  rfl
end Go.Proofs.Ytpifndpbmjmglaa
namespace Go.Proofs.Ytpifndpbmjmglaa
open Go.RowKit
theorem run_copy_str {P : Program} (w : World) (dT sT ty elem : TypeId) (b o dLen dCap n : Nat) (t : ByteArray)
    (hu : P.underlying dT = some (.slice elem)) (hz : ∀ w, (Go.sizeOf elem).run P w = .ok 1 w) (hn : Nat.min t.size dLen = n)
    (hc : ∀ j, j < n → (w.cell? ⟨b, o + j, none⟩).isSome = true) (hf : ∀ j, j < n → w.frozen? ⟨b, o + j, none⟩ = false) :
    (Builtin.copy_ #[dT, sT] ty #[.slice (some ⟨b, o, none⟩) dLen dCap, .string t]).run P w = .ok (goInt n) (w.setCells b o ((t.data.toList.take n).map fun x => Value.int .u8 (x.toNat : Int))) := by
  have hl : ((t.data.toList.take n).map fun x => Value.int .u8 (x.toNat : Int)).length = n := by
    rw [List.length_map, List.length_take, ← Lib.size_eq]
    exact Nat.min_eq_left (by rw [← hn]; exact Nat.min_le_left _ _)
  have hst := run_storeCells_cells (P := P) b o ((t.data.toList.take n).map fun x => Value.int .u8 (x.toNat : Int)) 0 w (by rw [hl]; simpa using hc) (by rw [hl]; simpa using hf) (by
    intro v hv
    obtain ⟨x, _, rfl⟩ := List.mem_map.1 hv
    rfl)
  simp [Builtin.copy_, run_underlying hu, Builtin.lenOf, Builtin.firstCells, hz, hn]
  rw [List.map_take] at hst
  rw [hst]
  rfl
theorem step_copy_str {P : Program} {ops : Array Oper} {o : Oper} {a : Act} {w : World} {K : Act → World → Prop} {Q : Exit → Act → World → Prop} {E : Prop}
    (hg : o.guard = none) (d x : Operand) (dT sT : TypeId) (hop : o.op = Op.call { callee := Callee.builtin Builtin.copy, args := #[d, x], argTypes := #[dT, sT] })
    (elem : TypeId) (hu : P.underlying dT = some (.slice elem)) (hz : ∀ w, (Go.sizeOf elem).run P w = .ok 1 w)
    (b off dLen dCap n : Nat) (hd : a.eval d = .slice (some ⟨b, off, none⟩) dLen dCap) (t : ByteArray) (hx : a.eval x = .string t) (hn : Nat.min t.size dLen = n)
    (hc : ∀ j, j < n → (w.cell? ⟨b, off + j, none⟩).isSome = true) (hf : ∀ j, j < n → w.frozen? ⟨b, off + j, none⟩ = false)
    (hK : K (a.put o.dst (goInt n)) (w.setCells b off ((t.data.toList.take n).map fun x => Value.int .u8 (x.toNat : Int)))) :
    if Region.wanted o (yielded ops a.tmps) = true then Oper.wp P o a w K Q else E := by
  have hw : Region.wanted o (yielded ops a.tmps) = true := by simp [Region.wanted, hg]
  rw [if_pos hw]
  have hrun := run_copy_str (P := P) w dT sT o.type elem b off dLen dCap n t hu hz hn hc hf
  rw [List.map_take] at hK
  unfold Oper.wp
  simp [execOp, hop, resolve, invoke, builtin, hd, hx, hrun, Result.andThen]
  exact hK
theorem setCells_other {b k : Nat} (hk : k ≠ b) : ∀ (vs : List Value) (o : Nat) (w : World), (w.setCells b o vs).heap[k]? = w.heap[k]?
  | [], _, _ => rfl
  | v :: r, o, w => (setCells_other hk r (o + 1) _).trans (Below.heap_setCell w ⟨b, o, none⟩ v k hk)
theorem setCells_size {b : Nat} : ∀ (vs : List Value) (o : Nat) (w : World), (w.setCells b o vs).heap.size = w.heap.size
  | [], _, _ => rfl
  | v :: r, o, w => (setCells_size r (o + 1) _).trans (by simp [World.setCell])
theorem setCells_same {b : Nat} {t : TypeId} {fz : Nat × Nat} : ∀ (vs : List Value) (o : Nat) (w : World) (cs : List Value), w.heap[b]? = some (.cells cs.toArray t fz) → o + vs.length ≤ cs.length →
    (w.setCells b o vs).heap[b]? = some (.cells (cs.take o ++ vs ++ cs.drop (o + vs.length)).toArray t fz)
  | [], o, w, cs, h, _ => by
    show w.heap[b]? = _
    simpa using h
  | v :: r, o, w, cs, h, hl => by
    have h1 : (w.setCell ⟨b, o, none⟩ v).heap[b]? = some (.cells (cs.set o v).toArray t fz) := by
      simp [World.setCell, Array.getElem?_modify, h]
    have := setCells_same r (o + 1) _ (cs.set o v) h1 (by simp at hl ⊢; omega)
    refine this.trans ?_
    congr 3
    rw [List.length_cons] at hl
    have e1 : (cs.set o v).take (o + 1) = cs.take o ++ [v] := by
      rw [List.take_succ_eq_append_getElem (by simp; omega), List.getElem_set_self, List.take_set_of_le (Nat.le_refl o)]
    have e2 : (cs.set o v).drop (o + 1 + r.length) = cs.drop (o + (r.length + 1)) := by
      rw [List.drop_set_of_lt (by omega)]
      congr 1; omega
    rw [e1, e2, List.length_cons]
    simp
theorem setCells_below {B b : Nat} {a : World} (hb : B ≤ b) (vs : List Value) (o : Nat) (w : World) (h : Below B a w) : Below B a (w.setCells b o vs) := below_setCells hb vs o w h
end Go.Proofs.Ytpifndpbmjmglaa
namespace Go.Proofs.Ytpifndpbmjmglaa
open Go.RowKit Go.Shelf
attribute [local go_sem] Oper.semAt_some
theorem grownBy_put (W : World) (b i : Nat) (v : Value) : W.grownBy (W.setCell ⟨b, i, none⟩ v) (some b) :=
  ⟨rfl, rfl, rfl, by simp [World.setCell], fun k _ hk => Below.heap_setCell _ _ _ _ (fun e => hk (by simp [e]))⟩
/-- a page as a value, and as a datum -/
def pgV (x : M.Pg) : Value := .agg #[.int .u64 x.a, .int .i64 x.p, .string x.d]
def pgD (x : M.Pg) : DataW Unit := .agg [.lit (.int .u64 x.a), .lit (.int .i64 x.p), .lit (.string x.d.data.toList)]
def pageR : Value → Option (DataW Unit × List MemPlace)
  | .agg cs => match cs.toList with
    | [.int .u64 a, .int .i64 p, .string d] => some (pgD ⟨a, p, d⟩, [])
    | _ => none
  | _ => none
theorem pageR_of (x : M.Pg) : pageR (pgV x) = some (pgD x, []) := rfl
theorem pageR_inv {v : Value} {x : M.Pg} {ps : List MemPlace} (h : pageR v = some (pgD x, ps)) : v = pgV x := by
  unfold pageR at h
  split at h
  · rename_i cs
    split at h
    · rename_i a p d e
      simp only [Option.some.injEq, Prod.mk.injEq, pgD, DataW.agg.injEq, List.cons.injEq, DataW.lit.injEq, Lit.int.injEq, Lit.string.injEq, true_and, and_true] at h
      obtain ⟨⟨h1, h2, h3⟩, -⟩ := h
      obtain ⟨xa, xp, xd⟩ := x
      simp only at h1 h2 h3
      subst h1; subst h2
      have hd : d = xd := by
        obtain ⟨d⟩ := d; obtain ⟨xd⟩ := xd
        congr 1
        exact Array.toList_inj.1 h3
      subst hd
      obtain ⟨cs⟩ := cs
      simp only at e
      subst e
      rfl
    · cases h
  · cases h
/-- what a page's place is a key by -/
noncomputable def klit (x : Int) : Lit := (keyOf Try.prog 109 (.agg #[.int .u64 x])).getD (.bool false)
theorem klit_of {x : Int} (h0 : 0 ≤ x) (h1 : x ≤ 18446744073709551615) : keyOf Try.prog 109 (.agg #[.int .u64 x]) = some (klit x) := by
  obtain ⟨l, hl⟩ := key_some x h0 h1
  rw [klit, hl]; rfl
theorem klit_ne {x y : Int} (h0 : 0 ≤ x) (h1 : x ≤ 18446744073709551615) (g0 : 0 ≤ y) (g1 : y ≤ 18446744073709551615) (h : x ≠ y) : klit x ≠ klit y := by
  intro e
  have a := klit_of h0 h1
  have b := klit_of g0 g1
  rw [e] at a
  have := keyed.inj a b
  simp at this
  exact h this
/-- a page with bytes from f on -/
def patch (x : M.Pg) (f : Int) (r : ByteArray) : M.Pg :=
  { x with d := ⟨(x.d.data.toList.take f.toNat ++ r.data.toList.take (min (256 - f.toNat) r.size) ++ x.d.data.toList.drop (f.toNat + min (256 - f.toNat) r.size)).toArray⟩ }
theorem patch_cells (d r : ByteArray) (x : M.Pg) (f : Int) (nn : Nat) (hx : x.d = d) (hn : min (256 - f.toNat) r.size = nn) (h : f.toNat + nn ≤ d.size) (Z : List Value) :
    (Lib.byteCells d.data.toList ++ Z).take f.toNat ++ Lib.byteCells (r.data.toList.take nn) ++ (Lib.byteCells d.data.toList ++ Z).drop (f.toNat + nn) = Lib.byteCells (patch x f r).d.data.toList ++ Z ∧ (patch x f r).d.size = d.size := by
  subst hx
  have hr : nn ≤ r.size := by omega
  refine ⟨?_, ?_⟩
  · rw [List.take_append_of_le_length (by rw [Lib.byteCells_length, ← Lib.size_eq]; omega), List.drop_append_of_le_length (by rw [Lib.byteCells_length, ← Lib.size_eq]; omega)]
    simp only [patch, hn, Lib.byteCells, List.map_append, List.map_take, List.map_drop, List.append_assoc]
  · show (patch x f r).d.data.size = x.d.data.size
    have h1 : x.d.data.size = x.d.size := rfl
    have h2 : r.data.size = r.size := rfl
    simp only [patch, hn, List.size_toArray, List.length_append, List.length_take, List.length_drop, Array.length_toList]
    omega
def pgOf (m : List M.Pg) (x : Int) : M.Pg := (m[M.low m x]?).getD ⟨0, 0, .empty⟩
/-- one row of places: what is left of the bytes, and the map -/
noncomputable def chS (m : List M.Pg) (st : ByteArray × DataW Unit) (s : M.Str) : ByteArray × DataW Unit :=
  (st.1.extract (min (256 - s.f.toNat) st.1.size) st.1.size, st.2.put (klit s.pg) (pgD (patch (pgOf m s.pg) s.f st.1)))
noncomputable def chF (m : List M.Pg) (l : ByteArray) (pre : List M.Str) : ByteArray × DataW Unit := pre.foldl (chS m) (l, .map [])
theorem chF_snoc (m : List M.Pg) (l : ByteArray) (pre : List M.Str) (s : M.Str) : chF m l (pre ++ [s]) = chS m (chF m l pre) s := by simp [chF]
theorem map_own {m : List M.Pg} {B₀ b : Nat} (hb : b < B₀) (P : List {s // InPg m s} → Nat × DataW Unit) : OwnFrom B₀ (fun s W => World.ownsMap W Try.prog 109 pageR b (P s).1 (P s).2) := by
  intro s W W' row h hg hr
  exact h.kept hg (fun e => by have := (hr _ e.symm).1; omega)
/-- what changedPages hands back -/
def MapPost (D : DataW Unit) (w : World) (e : Ending) (W' : World) : Prop := ∃ b n, e = .returned (.map (some b)) ∧ w.heap.size ≤ b ∧ W'.ownsMap Try.prog 109 pageR b n D ∧ Below w.heap.size w W'
set_option maxRecDepth 100000 in
set_option maxHeartbeats 4000000 in
theorem changed_in {m : List M.Pg} {v : Value} (a : Int) (l : ByteArray) {w : World} (hP : Pages w v m) (hl : m.length ≤ 1000000) (hu : m.Pairwise (fun x y => x.a < y.a))
    (a0 : 0 ≤ a) (a1 : a ≤ 18446744073709551615) (k1 : l.size ≤ 100000) (hk : a + l.size ≤ 18446744073709551616) (hQ : ∀ s ∈ M.strs a l.size, InPg m s) :
    Calls Try.prog 57 #[v, .int .u64 a, .string l] w (MapPost (chF m l (M.strs a l.size)).2 w) := by
  have HF := Lib.hid (fun (W : World) (h : Below w.heap.size w W) (x : Int) => find_any x (hP.next h) hl hu)
  have HP := Lib.hid hP
  have HQ := Lib.hid hQ
  obtain ⟨A, cap, hv⟩ := hP.slice
  obtain ⟨nv, hnv⟩ : ∃ nv, m.length = nv := ⟨_, rfl⟩
  have HN := Lib.hid hnv
  rw [hnv] at hv
  subst hv
  clear hP hu hnv hQ hl
  have hmm := @run_makeMap Try.prog
  refine (callsIn_wide (n := 3)).1 ?_
  refine callsIn_of_wp_marks Try.func57 rfl trivial ?_ rfl
  simp only [Try.ntmps57, List.size_toArray, List.length_cons, List.length_nil, Nat.reduceAdd, Nat.reduceSub, Array.replicate_succ, Array.replicate_zero, List.push_toArray, List.append_toArray, List.nil_append, List.cons_append]
  gi_wp2_with (fail)
  refine ⟨trivial, ?_⟩
  refine (stretches_in 2 _ _ _).mono ?_
  rintro e w1 ⟨rfl, rfl⟩
  clear hmm
  gi_wp2_with (fail)
  have bV := ((((((Boxed.new w 28 (.slice A nv cap)).alloc (.cells #[.string l] 9)).alloc (.map #[] 0)).alloc (.cells #[.map (some (w.heap.size + 1 + 1))] 106)).alloc (.cells #[.int .u64 a] 22)).alloc (.cells #[.int .i64 (l.size : Int)] 3))
  have bS := (((((Boxed.new (w.alloc (.cells #[.slice A nv cap] 28)) 9 (.string l)).alloc (.map #[] 0)).alloc (.cells #[.map (some (w.heap.size + 1 + 1))] 106)).alloc (.cells #[.int .u64 a] 22)).alloc (.cells #[.int .i64 (l.size : Int)] 3))
  have bM := (((Boxed.new (((w.alloc (.cells #[.slice A nv cap] 28)).alloc (.cells #[.string l] 9)).alloc (.map #[] 0)) 106 (.map (some (w.heap.size + 1 + 1)))).alloc (.cells #[.int .u64 a] 22)).alloc (.cells #[.int .i64 (l.size : Int)] 3))
  have bA := ((Boxed.new ((((w.alloc (.cells #[.slice A nv cap] 28)).alloc (.cells #[.string l] 9)).alloc (.map #[] 0)).alloc (.cells #[.map (some (w.heap.size + 1 + 1))] 106)) 22 (.int .u64 a)).alloc (.cells #[.int .i64 (l.size : Int)] 3))
  have bK := (Boxed.new (((((w.alloc (.cells #[.slice A nv cap] 28)).alloc (.cells #[.string l] 9)).alloc (.map #[] 0)).alloc (.cells #[.map (some (w.heap.size + 1 + 1))] 106)).alloc (.cells #[.int .u64 a] 22)) 3 (.int .i64 (l.size : Int)))
  have oM := ((((World.ownsMap_made ((w.alloc (.cells #[.slice A nv cap] 28)).alloc (.cells #[.string l] 9)) Try.prog 109 pageR).alloc (.cells #[.map (some (w.heap.size + 1 + 1))] 106)).alloc (.cells #[.int .u64 a] 22)).alloc (.cells #[.int .i64 (l.size : Int)] 3))
  have hB0 := (balloc (balloc (balloc (balloc (balloc (balloc (Below.refl _ w) (.cells #[.slice A nv cap] 28)) (.cells #[.string l] 9)) (.map #[] 0)) (.cells #[.map (some (w.heap.size + 1 + 1))] 106)) (.cells #[.int .u64 a] 22)) (.cells #[.int .i64 (l.size : Int)] 3))
  have hsz : ((((((w.alloc (.cells #[.slice A nv cap] 28)).alloc (.cells #[.string l] 9)).alloc (.map #[] 0)).alloc (.cells #[.map (some (w.heap.size + 1 + 1))] 106)).alloc (.cells #[.int .u64 a] 22)).alloc (.cells #[.int .i64 (l.size : Int)] 3)).heap.size = w.heap.size + 6 := by simp
  simp only [World.size_alloc] at bS bM bA bK oM
  generalize ((((((w.alloc (.cells #[.slice A nv cap] 28)).alloc (.cells #[.string l] 9)).alloc (.map #[] 0)).alloc (.cells #[.map (some (w.heap.size + 1 + 1))] 106)).alloc (.cells #[.int .u64 a] 22)).alloc (.cells #[.int .i64 (l.size : Int)] 3)) = W0 at *
  refine wpIn_rangeFunc_ownH (α := {s : M.Str // InPg m s}) rfl (by omega) (gf := 63) (lb := #[.pointer (some ⟨w.heap.size + 1 + 1 + 1 + 1, 0, none⟩), .pointer (some ⟨w.heap.size + 1 + 1 + 1 + 1 + 1, 0, none⟩)]) rfl trivial (enters_of Try.func63 (by kernel_rfl) rfl)
    (strs_stops 2 (by omega) (w.heap.size + 1 + 1 + 1 + 1) (w.heap.size + 1 + 1 + 1 + 1 + 1) a l.size (InPg m) HQ.out a0 a1 (by omega) hk W0 (by omega) (by omega) bA.cell bK.cell) KeepS.trans keepS_b (Below.refl _ _) (fun _ => rfl)
    (fun pre W => (Boxed W w.heap.size 28 (.slice A nv cap) ∧ Boxed W (w.heap.size + 1) 9 (.string (chF m l (pre.map Subtype.val)).1) ∧ Boxed W (w.heap.size + 1 + 1 + 1) 106 (.map (some (w.heap.size + 1 + 1)))) ∧ World.ownsMap W Try.prog 109 pageR (w.heap.size + 1 + 1) pre.length (chF m l (pre.map Subtype.val)).2 ∧ Below w.heap.size w W)
    (fun _ _ _ => False)
    (OwnFrom.and (OwnFrom.and (Own.from (boxed_own _ _ _) _) (OwnFrom.and (Own.from (boxed_own _ _ (fun pre : List {s // InPg m s} => Value.string (chF m l (pre.map Subtype.val)).1)) _) (Own.from (boxed_own _ _ _) _))) (OwnFrom.and (map_own (by omega) (fun pre => (pre.length, (chF m l (pre.map Subtype.val)).2))) (ownFrom_below (Nat.le_refl _) (by omega))))
    (fun _ _ _ _ _ hs _ _ => hs)
    ⟨⟨bV, bS, bM⟩, oM, hB0⟩
    (fun x a' W => ∃ Bx, BoxedS W Bx x.1 ∧ a' = { tmps := #[.slice A nv cap, .int .u64 a, .string l, .pointer (some ⟨w.heap.size, 0, none⟩), undef, .pointer (some ⟨w.heap.size + 1, 0, none⟩), .map none, .pointer (some ⟨w.heap.size + 1 + 1 + 1, 0, none⟩), .pointer (some ⟨Bx, 0, none⟩), undef, undef, undef, undef, .map (some (w.heap.size + 1 + 1)), .int .u64 a, .string l, .int .i64 (l.size : Int), .func (.func 63) #[] #[.pointer (some ⟨w.heap.size + 1 + 1 + 1 + 1, 0, none⟩), .pointer (some ⟨w.heap.size + 1 + 1 + 1 + 1 + 1, 0, none⟩)], encS x.1, undef, undef, undef, undef, undef, undef, undef, undef, undef, undef, undef, undef, undef, undef, undef, undef, undef, undef, undef, undef, undef, undef, undef, undef, undef, undef, undef, undef, undef, undef, undef], defers := [] })
    (fun x a' s X Y row hs hg hr => by obtain ⟨Bx, h1, h2⟩ := hs; exact ⟨Bx, boxedS_own Bx x.1 () X Y row h1 hg hr, h2⟩)
    ?assign ?body ?done ?stop
  case assign =>
    rintro l pre x W K ⟨⟨b1, b2, b3⟩, om, hb⟩ hK
    have HK := Lib.hid hK
    clear hK
    obtain ⟨⟨pg, f, n⟩, hx⟩ := x
    simp only [encS]
    gi_wp2
    exact HK.out _ _ ((KeepsOthers.alloc _ _).from _) (KeepS.below (balloc (Below.refl _ _) _)) ⟨⟨b1.alloc _, b2.alloc _, b3.alloc _⟩, om.alloc _, balloc hb _⟩ ⟨W.heap.size, BoxedS.new W ⟨pg, f, n⟩, rfl⟩
  case body =>
    rintro lo pre x a' W hl0 hr ⟨⟨b1, b2, b3⟩, om, hb⟩ ⟨Bx, bx, rfl⟩ hlen
    obtain ⟨ho, i, hi, hlo, hth, hds⟩ := x.2
    obtain ⟨b, off, hA, hPI⟩ : ∃ b off, A = some ⟨b, off, none⟩ ∧ PagesIn w b off m := by
      rcases HP.out with ⟨e, _⟩ | ⟨_, b, off, c, e, h⟩
      · subst e; simp at hi
      · injection e with e1 e2 e3; exact ⟨b, off, e1, h⟩
    subst hA
    have HPI := Lib.hid hPI
    have HG := Lib.hid (HF.out W hb x.1.pg)
    rw [hlo, hth] at HG
    have HI := Lib.hid (show (Boxed W w.heap.size 28 (.slice (some ⟨b, off, none⟩) nv cap) ∧ Boxed W (w.heap.size + 1) 9 (.string (chF m l (pre.map Subtype.val)).1) ∧ Boxed W (w.heap.size + 1 + 1 + 1) 106 (.map (some (w.heap.size + 1 + 1)))) ∧ World.ownsMap W Try.prog 109 pageR (w.heap.size + 1 + 1) pre.length (chF m l (pre.map Subtype.val)).2 ∧ Below w.heap.size w W from ⟨⟨b1, b2, b3⟩, om, hb⟩)
    have HX := Lib.hid bx
    have hi' : i < nv := by rw [← HN.out]; exact hi
    obtain ⟨e0, e1, e2⟩ := (hPI.next hb).2 i hi
    have HO := Lib.hid ho
    have HLN := Lib.hid hlen
    have c1 := b1.cell
    obtain ⟨c3, -, -⟩ := bx.cells
    have HEN := Lib.hid (show encS x.1 = .agg #[.int .u64 x.1.pg, .int .i64 x.1.f, .int .i64 x.1.n] from rfl)
    rw [HEN.out]
    have f0 := ho.f0
    have n1 := ho.n1
    have fn := ho.fn
    have HPG := Lib.hid (show pgOf m x.1.pg = m[i] by unfold pgOf; rw [hlo, List.getElem?_eq_getElem hi]; rfl)
    obtain ⟨pg, hpg⟩ : ∃ pg, x.1.pg = pg := ⟨_, rfl⟩
    obtain ⟨xf, hxf⟩ : ∃ pg, x.1.f = pg := ⟨_, rfl⟩
    obtain ⟨xn, hxn⟩ : ∃ pg, x.1.n = pg := ⟨_, rfl⟩
    obtain ⟨q, hq⟩ : ∃ q, m[i] = q := ⟨_, rfl⟩
    obtain ⟨qa, qp, d⟩ := q
    rw [hq] at hds e0 e1 e2 HPG
    simp only at hds e0 e1 e2
    have HQM := Lib.hid hq
    rw [hpg] at HG c3 ⊢
    rw [hxf] at f0 fn ⊢
    rw [hxn] at n1 fn ⊢
    have HXP := Lib.hid hpg
    have HXF := Lib.hid hxf
    have HXN := Lib.hid hxn
    obtain ⟨r, hrr⟩ : ∃ r, (chF m l (pre.map Subtype.val)).1 = r := ⟨_, rfl⟩
    have HR := Lib.hid hrr
    clear hb b1 b2 b3 bx hr hlen hpg hxf hxn hlo hth ho hq om hrr hPI
    have E0 := Lib.hid e0
    have E1 := Lib.hid e1
    have E2 := Lib.hid e2
    have BB := Lib.hid (show b < W.heap.size from Nat.lt_of_lt_of_le HPI.out.1 HI.out.2.2.size)
    clear e0 e1 e2
    gi_wp2_with (fail)
    refine ⟨trivial, ?_⟩
    refine (CallsIn.inRound lo (callsIn_wide.2 HG.out)).mono ?_
    rintro e w1 ⟨rfl, hb1⟩
    have HB1 := Lib.hid hb1
    clear c1 c3
    have c1 := (boxed_below HI.out.1.1 hb1).cell
    have e0 := ((bcell hb1).1 b _ BB.out).trans E0.out
    have e1 := ((bcell hb1).1 b _ BB.out).trans E1.out
    have e2 := ((bcell hb1).1 b _ BB.out).trans E2.out
    clear hb1
    have hcv : ∀ W : World, (convert 9 51 (.string d)).run Try.prog W = .ok (.slice (some ⟨W.heap.size, 0, none⟩) d.size (grownCap W d.size 0 5)) (W.drew.alloc (.cells (bytesRow d (grownCap W d.size 0 5)) 5 ((bytesRow d (grownCap W d.size 0 5)).size, (bytesRow d (grownCap W d.size 0 5)).size + 1))) := fun W => run_bytes_of_string W _ _ _ d Try.underlying9 Try.underlying51 Try.underlying5
    gi_wp2_with (fail)
    have HCP := grownCap_ge (w1.alloc (.cells #[.int .u64 qa, .int .i64 qp, .string d] 70)) 256 0 5
    generalize (grownCap (w1.alloc (.cells #[.int .u64 qa, .int .i64 qp, .string d] 70)) 256 0 5) = cp at *
    have hP3 : (((w1.alloc (.cells #[.int .u64 qa, .int .i64 qp, .string d] 70)).alloc (.cells (bytesRow d cp) 5 ((bytesRow d cp).size, (bytesRow d cp).size + 1))).drew).heap[w1.heap.size]? = some (.cells #[.int .u64 qa, .int .i64 qp, .string d] 70) := (Below.heap_alloc _ _ _ (by simp)).trans (heap_alloc_new _ _)
    have hG3 : (((w1.alloc (.cells #[.int .u64 qa, .int .i64 qp, .string d] 70)).alloc (.cells (bytesRow d cp) 5 ((bytesRow d cp).size, (bytesRow d cp).size + 1))).drew).heap[w1.heap.size + 1]? = some (.cells (bytesRow d cp) 5 ((bytesRow d cp).size, (bytesRow d cp).size + 1)) := by
      have h := heap_alloc_new (w1.alloc (.cells #[.int .u64 qa, .int .i64 qp, .string d] 70)) (.cells (bytesRow d cp) 5 ((bytesRow d cp).size, (bytesRow d cp).size + 1))
      rw [World.size_alloc] at h
      exact h
    have hB3 : Below W.heap.size W (((w1.alloc (.cells #[.int .u64 qa, .int .i64 qp, .string d] 70)).alloc (.cells (bytesRow d cp) 5 ((bytesRow d cp).size, (bytesRow d cp).size + 1))).drew) := bthen HB1.out ((balloc (balloc (Below.refl _ _) _) _).drew)
    have hS3 : (((w1.alloc (.cells #[.int .u64 qa, .int .i64 qp, .string d] 70)).alloc (.cells (bytesRow d cp) 5 ((bytesRow d cp).size, (bytesRow d cp).size + 1))).drew).heap.size = w1.heap.size + 2 := by simp
    have hSW : W.heap.size ≤ w1.heap.size := HB1.out.size
    generalize ((w1.alloc (.cells #[.int .u64 qa, .int .i64 qp, .string d] 70)).alloc (.cells (bytesRow d cp) 5 ((bytesRow d cp).size, (bytesRow d cp).size + 1))).drew = W3 at *
    have hrow : bytesRow d cp = (Lib.byteCells d.data.toList ++ List.replicate (cp - d.size) (Value.int .u8 0)).toArray := by
      simp [bytesRow, Lib.byteCells]
    have hlen : (Lib.byteCells d.data.toList ++ List.replicate (cp - d.size) (Value.int .u8 0)).length = cp := by
      rw [List.length_append, List.length_replicate, Lib.byteCells_length, ← Lib.size_eq, hds]; omega
    rw [hrow] at hG3
    generalize hfz : ((Lib.byteCells d.data.toList ++ List.replicate (cp - d.size) (Value.int .u8 0)).toArray.size, (Lib.byteCells d.data.toList ++ List.replicate (cp - d.size) (Value.int .u8 0)).toArray.size + 1) = fz at hG3
    have d4 : BoxedS W3 Bx x.1 := (hB3.block Bx HX.out.lt).trans HX.out
    have d2 : Boxed W3 (w.heap.size + 1) 9 (.string r) := by
      have h := boxed_below HI.out.1.2.1 hB3
      rw [HR.out] at h
      exact h
    obtain ⟨-, q3, -⟩ := d4.cells
    rw [HXF.out] at q3
    have cS := d2.cell
    have fS := d2.frozen
    have g1 : xf ≤ 256 := by omega
    have g2 : xf.toNat ≤ 256 := by omega
    have g3 : xf.toNat ≤ cp := by omega
    have g4 : xf ≤ (cp : Int) := by omega
    have g5 : (cp == xf.toNat) = false := by simp; omega
    have g6 : ¬ cp = xf.toNat := by omega
    refine round_held (S := fun W' => W'.cell? ⟨Bx, 1, none⟩ = some (.int .i64 xf)) (by kernel_rfl) (by simp) q3 (fun hHeld => ?_)
    replace hP3 : W3.drew.heap[w1.heap.size]? = _ := hP3
    replace hG3 : W3.drew.heap[w1.heap.size + 1]? = _ := hG3
    replace hB3 : Below W.heap.size W W3.drew := hB3.drew
    replace hS3 : W3.drew.heap.size = w1.heap.size + 2 := hS3
    replace d4 : BoxedS W3.drew Bx x.1 := d4
    replace d2 : Boxed W3.drew (w.heap.size + 1) 9 (.string r) := d2
    replace q3 : W3.drew.cell? ⟨Bx, 1, none⟩ = some (.int .i64 xf) := q3
    replace cS : W3.drew.cell? ⟨w.heap.size + 1, 0, none⟩ = some (.string r) := cS
    replace fS : W3.drew.frozen? ⟨w.heap.size + 1, 0, none⟩ = false := fS
    generalize W3.drew = V at *
    refine wpAnyH_take (i := 1) (v := ?_) rfl (by kernel_rfl) (by kernel_rfl) (by kernel_rfl) (fun _ _ _ h => nomatch h.1) (Or.inl ⟨by rfl, ?_⟩) (by assumption) ?_
    rotate_left
    · intro w s1; (try dsimp only at s1); go_simp; try (with_reducible rfl)
    (try simp only [Act.put])
    refine wpAnyH_take (i := 2) (v := ?_) rfl (by kernel_rfl) (by kernel_rfl) (by kernel_rfl) (fun _ _ _ h => nomatch h.1) (Or.inl ⟨by rfl, ?_⟩) (by assumption) ?_
    rotate_left
    · intro w s1; (try dsimp only at s1); go_simp; try (with_reducible rfl)
    (try simp only [Act.put])
    refine wpAnyH_take (i := 3) (v := ?_) rfl (by kernel_rfl) (by kernel_rfl) (by kernel_rfl) (fun _ _ _ h => nomatch h.1) (Or.inl ⟨by rfl, ?_⟩) (by assumption) ?_
    rotate_left
    · intro w s1; (try dsimp only at s1); go_simp; try (with_reducible rfl)
    (try simp only [Act.put])
    refine wpAnyH_take (i := 4) (v := ?_) rfl (by kernel_rfl) (by kernel_rfl) (by kernel_rfl) (fun _ _ _ h => nomatch h.1) (Or.inl ⟨by rfl, ?_⟩) (by assumption) ?_
    rotate_left
    · intro w s1; (try dsimp only at s1); go_simp; try (with_reducible rfl)
    (try simp only [Act.put])
    obtain ⟨nn, hnn⟩ : ∃ nn, min (256 - xf.toNat) r.size = nn := ⟨_, rfl⟩
    have hn1 : Nat.min r.size (256 - xf.toNat) = nn := by rw [← hnn]; exact Nat.min_comm _ _
    have hn2 : nn ≤ r.size := by omega
    have hn3 : xf.toNat + nn ≤ 256 := by omega
    have hn4 : (nn : Int) ≤ (r.size : Int) := by omega
    have hn5 : (0 : Int) ≤ (nn : Int) := Int.natCast_nonneg _
    have hbl : ((r.data.toList.take nn).map fun x => Value.int .u8 (x.toNat : Int)).length = nn := by
      rw [List.length_map, List.length_take, ← Lib.size_eq]; omega
    have hcc : ∀ j, j < nn → (V.cell? ⟨w1.heap.size + 1, xf.toNat + j, none⟩).isSome = true := fun j hj => by
      rw [cell_of_row V _ (xf.toNat + j) _ _ _ hG3, List.getElem?_toArray, List.getElem?_eq_getElem (by rw [hlen]; omega)]
      rfl
    have hcf : ∀ j, j < nn → V.frozen? ⟨w1.heap.size + 1, xf.toNat + j, none⟩ = false := fun j hj => by
      rw [← hfz] at hG3
      unfold World.frozen?
      rw [hG3]
      simp only [List.size_toArray, hlen]
      simp
      omega
    have hz1 : ∀ w, (Go.sizeOf 5).run Try.prog w = .ok 1 w := Try.sizeOf5
    have zlt := HI.out.1.2.1.lt
    have hS4 : (V.setCells (w1.heap.size + 1) xf.toNat ((r.data.toList.take nn).map fun x => Value.int .u8 (x.toNat : Int))).heap.size = w1.heap.size + 2 := by rw [setCells_size]; exact hS3
    have hB4 : Below W.heap.size W (V.setCells (w1.heap.size + 1) xf.toNat ((r.data.toList.take nn).map fun x => Value.int .u8 (x.toNat : Int))) := setCells_below (by omega) _ _ _ hB3
    have e2' : Boxed (V.setCells (w1.heap.size + 1) xf.toNat ((r.data.toList.take nn).map fun x => Value.int .u8 (x.toNat : Int))) (w.heap.size + 1) 9 (.string r) := (setCells_other (by omega) _ _ _).trans d2
    have x4 : BoxedS (V.setCells (w1.heap.size + 1) xf.toNat ((r.data.toList.take nn).map fun x => Value.int .u8 (x.toNat : Int))) Bx x.1 := (setCells_other (by have := HX.out.lt; omega) _ _ _).trans d4
    have p4 : (V.setCells (w1.heap.size + 1) xf.toNat ((r.data.toList.take nn).map fun x => Value.int .u8 (x.toNat : Int))).heap[w1.heap.size]? = some (.cells #[.int .u64 qa, .int .i64 qp, .string d] 70 (0, 0)) := (setCells_other (by omega) _ _ _).trans hP3
    have gg4 := setCells_same ((r.data.toList.take nn).map fun x => Value.int .u8 (x.toNat : Int)) xf.toNat V _ hG3 (by rw [hbl, hlen]; omega)
    rw [hbl] at gg4
    have cS4 := e2'.cell
    have fS4 := e2'.frozen
    have q34 : (V.setCells (w1.heap.size + 1) xf.toNat ((r.data.toList.take nn).map fun x => Value.int .u8 (x.toNat : Int))).cell? ⟨Bx, 1, none⟩ = some (.int .i64 xf) := by
      have h2 := x4.cells.2.1
      rw [HXF.out] at h2
      exact h2
    have q35 : ((V.setCells (w1.heap.size + 1) xf.toNat ((r.data.toList.take nn).map fun x => Value.int .u8 (x.toNat : Int))).setCell ⟨w.heap.size + 1, 0, none⟩ (.string (r.extract nn r.size))).cell? ⟨Bx, 1, none⟩ = some (.int .i64 xf) := by
      have hne : Bx ≠ w.heap.size + 1 := fun e => by
        have h := x4
        unfold BoxedS at h
        have h2 := e2'
        unfold Boxed at h2
        rw [e, h2] at h
        cases h
      rw [World.cell?_setCell_other _ _ _ _ (fun e => hne (by cases e))]
      exact q34
    refine wpAnyH_ready (rs := [0, 5]) (by kernel_rfl) (by simp) ?_
    refine AllReadyH.cons rfl (fun K hK => ?_) (AllReadyH.cons rfl (fun K hK => ?_) AllReadyH.nil)
    all_goals (go_simp; refine hK.out _ _ q3 (fun _ => ?_); clear hK K)
    all_goals (try simp only [Act.put])
    · refine wpAnyH_ready (rs := [5]) (by kernel_rfl) (by simp) ?_
      refine AllReadyH.cons rfl (fun K hK => ?_) AllReadyH.nil
      go_simp
      refine hK.out _ _ q3 (fun _ => ?_)
      clear hK K
      (try simp only [Act.put])
      refine wpAnyH_ready (rs := [6]) (by kernel_rfl) (by simp) ?_
      refine AllReadyH.cons rfl (fun K hK => ?_) AllReadyH.nil
      refine step_copy_str rfl (.tmp 37) (.tmp 38) 51 9 rfl 5 Try.underlying51 hz1 (w1.heap.size + 1) xf.toNat (256 - xf.toNat) (cp - xf.toNat) nn rfl r rfl hn1 hcc hcf ?_
      generalize V.setCells (w1.heap.size + 1) xf.toNat ((r.data.toList.take nn).map fun x => Value.int .u8 (x.toNat : Int)) = V4 at *
      refine hK.out _ _ q34 (fun _ => ?_)
      clear hK K
      (try simp only [Act.put])
      refine wpAnyH_take (i := 7) (v := ?_) rfl (by kernel_rfl) (by kernel_rfl) (by kernel_rfl) (fun _ _ _ h => nomatch h.1) (Or.inl ⟨by rfl, ?_⟩) (by assumption) ?_
      rotate_left
      · intro w s1; (try dsimp only at s1); go_simp; try (with_reducible rfl)
      (try simp only [Act.put])
      refine wpAnyH_ready (rs := [8]) (by kernel_rfl) (by simp) ?_
      refine AllReadyH.cons rfl (fun K hK => ?_) AllReadyH.nil
      go_simp
      refine hK.out _ _ q35 (fun _ => ?_)
      clear hK K
      (try simp only [Act.put])
      refine wpAnyH_done (by kernel_rfl) ?_ _
      refine ⟨rfl, ?_⟩
      have hne : Bx ≠ w.heap.size + 1 := fun e => by
        have h := x4
        unfold BoxedS at h
        have h2 := e2'
        unfold Boxed at h2
        rw [e, h2] at h
        cases h
      have p5 : (V4.setCell ⟨w.heap.size + 1, 0, none⟩ (.string (r.extract nn r.size))).heap[w1.heap.size]? = _ := (Below.heap_setCell _ _ _ _ (by simp; omega)).trans p4
      have gg5 : (V4.setCell ⟨w.heap.size + 1, 0, none⟩ (.string (r.extract nn r.size))).heap[w1.heap.size + 1]? = _ := (Below.heap_setCell _ _ _ _ (by simp; omega)).trans gg4
      have s5 : Boxed (V4.setCell ⟨w.heap.size + 1, 0, none⟩ (.string (r.extract nn r.size))) (w.heap.size + 1) 9 (.string (r.extract nn r.size)) := e2'.set _
      have v5 := (boxed_below HI.out.1.1 hB4).other (B' := w.heap.size + 1) (by omega) (.string (r.extract nn r.size))
      have m5 := (boxed_below HI.out.1.2.2 hB4).other (B' := w.heap.size + 1) (by omega) (.string (r.extract nn r.size))
      have om5 := (HI.out.2.1.kept (w' := V4) (row := none) ⟨hB4.os, hB4.tape, hB4.output, hB4.size, fun k hk _ => hB4.block k hk⟩ (by simp)).kept (grownBy_setCell' V4 (w.heap.size + 1) (.string (r.extract nn r.size))) (by simp)
      have x5 : BoxedS (V4.setCell ⟨w.heap.size + 1, 0, none⟩ (.string (r.extract nn r.size))) Bx x.1 := (Below.heap_setCell _ _ _ _ hne).trans x4
      have b5 : Below w.heap.size w (V4.setCell ⟨w.heap.size + 1, 0, none⟩ (.string (r.extract nn r.size))) := (bthen HI.out.2.2 hB4).setCell (p := ⟨w.heap.size + 1, 0, none⟩) (by simp) _
      have kf5 : KeepsFrom W0.heap.size W (V4.setCell ⟨w.heap.size + 1, 0, none⟩ (.string (r.extract nn r.size))) := (keeps_below _ hB4).trans ((KeepsOthers.setCell _ _ _).from _)
      have ks5 : KeepS W (V4.setCell ⟨w.heap.size + 1, 0, none⟩ (.string (r.extract nn r.size))) := (KeepS.below hB4).trans (KeepS.grown (grownBy_setCell' V4 (w.heap.size + 1) _) (fun k e cs f hh => by
        cases e
        have h2 := e2'
        unfold Boxed at h2
        rw [h2] at hh
        cases hh))
      have h5 : (V4.setCell ⟨w.heap.size + 1, 0, none⟩ (.string (r.extract nn r.size))).heap.size = w1.heap.size + 2 := by simp [World.setCell]; exact hS4
      generalize V4.setCell ⟨w.heap.size + 1, 0, none⟩ (.string (r.extract nn r.size)) = V5 at *
      have hnd := patch_cells d r ⟨qa, qp, d⟩ xf nn rfl hnn (by omega) (List.replicate (cp - d.size) (Value.int .u8 0))
      have hbc : ((r.data.toList.take nn).map fun x => Value.int .u8 (x.toNat : Int)) = Lib.byteCells (r.data.toList.take nn) := rfl
      rw [hbc, hnd.1] at gg5
      have hnl := hnd.2
      have HPD := Lib.hid (show patch ⟨qa, qp, d⟩ xf r = ⟨qa, qp, (patch ⟨qa, qp, d⟩ xf r).d⟩ from rfl)
      obtain ⟨nd, hnd'⟩ : ∃ nd, (patch ⟨qa, qp, d⟩ xf r).d = nd := ⟨_, rfl⟩
      rw [hnd'] at gg5 hnl HPD
      have hcv2 : (convert 51 9 (.slice (some ⟨w1.heap.size + 1, 0, none⟩) 256 cp)).run Try.prog V5 = .ok (.string nd) V5 := by
        have h := run_convert_bytes_arg V5 51 5 Try.underlying51 Try.underlying5 (w1.heap.size + 1) 0 256 cp (nd.data.toList.map (fun b => (b.toNat : Int))) (by rw [List.length_map, ← Lib.size_eq]; omega) (fun i hi => by
          rw [Nat.zero_add, cell_of_row V5 _ i _ _ _ gg5, List.getElem?_toArray, List.getElem?_append_left (by rw [Lib.byteCells_length, ← Lib.size_eq]; omega)]
          have hi2 : i < nd.data.toList.length := by rw [← Lib.size_eq]; omega
          simp only [Lib.byteCells, List.getElem?_map, List.getD_eq_getElem?_getD, List.getElem?_eq_getElem hi2]
          rfl) 9 Try.underlying9
        rw [h]
        simp [strOfNums, Function.comp_def]
      have HG5 := Lib.hid gg5
      have w5 : Whole V5 w1.heap.size 70 #[.int .u64 qa, .int .i64 qp, .string d] := p5
      have cp2 : V5.cell? ⟨w1.heap.size, 2, none⟩ = some (.string d) := w5.cell 2
      have fp2 := w5.free 2
      have w6 : Whole (V5.setCell ⟨w1.heap.size, 2, none⟩ (.string nd)) w1.heap.size 70 #[.int .u64 qa, .int .i64 qp, .string nd] := w5.put 2 _
      have k0 : (V5.setCell ⟨w1.heap.size, 2, none⟩ (.string nd)).cell? ⟨w1.heap.size, 0, none⟩ = some (.int .u64 qa) := w6.cell 0
      have k1' : (V5.setCell ⟨w1.heap.size, 2, none⟩ (.string nd)).cell? ⟨w1.heap.size, 1, none⟩ = some (.int .i64 qp) := w6.cell 1
      have k2 : (V5.setCell ⟨w1.heap.size, 2, none⟩ (.string nd)).cell? ⟨w1.heap.size, 2, none⟩ = some (.string nd) := w6.cell 2
      have zl3 := HI.out.1.2.2.lt
      have xl := HX.out.lt
      have m6 : (V5.setCell ⟨w1.heap.size, 2, none⟩ (.string nd)).cell? ⟨w.heap.size + 1 + 1 + 1, 0, none⟩ = some (.map (some (w.heap.size + 1 + 1))) := by
        rw [World.cell?_setCell_other _ _ _ _ (fun e => by have h := congrArg Addr.block e; simp at h; omega)]; exact m5.cell
      have x6 : (V5.setCell ⟨w1.heap.size, 2, none⟩ (.string nd)).cell? ⟨Bx, 0, none⟩ = some (.int .u64 pg) := by
        rw [World.cell?_setCell_other _ _ _ _ (fun e => by have h := congrArg Addr.block e; simp at h; omega)]
        have h := x5.cells.1
        rw [HXP.out] at h
        exact h
      have hg6 : V5.grownBy (V5.setCell ⟨w1.heap.size, 2, none⟩ (.string nd)) (some w1.heap.size) := grownBy_put _ _ _ _
      have om6 := om5.kept hg6 (by have := HI.out.2.1.lt; intro e; have h := Option.some.inj e; omega)
      have HW := Lib.hid (show V5.heap.size = w1.heap.size + 2 from h5)
      have HNX := Lib.hid (show pre.length < maxLen by
        have h1 := HLN.out
        have h2 := M.strs_len (a := a) (n := (l.size : Int))
        unfold maxLen; omega)
      have HPG0 := Lib.hid (show 0 ≤ pg ∧ pg ≤ 18446744073709551615 by
        have h1 := HO.out.pg0
        have h2 := HO.out.pg1
        rw [HXP.out] at h1 h2
        omega)
      clear hcc hcf hbl hn1 hn2 hn3 hn4 hn5 hz1 cS fS q3 q34 q35 cS4 fS4 e2' x4 p4 gg4 gg5 hnd hbc p5 g1 g2 g3 g4 g5 g6 hP3 hG3 hB3 hS3 d4 d2 hrow hlen hcv HCP hnl hne
      gi_wp2_with (gi_at_mapUpdate; refine wpListIn_mapUpdate_own _ rfl _ _ _ 106 rfl 109 70 keyed Try.underlying106 _ (w.heap.size + 1 + 1) pre.length _ rfl om6 HNX.out _ _ _ rfl rfl (klit_of (x := pg) HPG0.out.1 HPG0.out.2) _ [] (pageR_of ⟨qa, qp, nd⟩) ?_; intro W7 om7 hg7)
      have s6 : Boxed (V5.setCell ⟨w1.heap.size, 2, none⟩ (.string nd)) (w.heap.size + 1) 9 (.string (r.extract nn r.size)) := s5.kept hg6 (fun e => by have h := Option.some.inj e; omega)
      have v6 := v5.kept hg6 (fun e => by have h := Option.some.inj e; omega)
      have m7 := (m5.kept hg6 (fun e => by have h := Option.some.inj e; omega)).kept hg7 (fun e => by have h := Option.some.inj e; omega)
      have HST := Lib.hid (show chF m l ((pre ++ [x]).map Subtype.val) = (r.extract nn r.size, (chF m l (pre.map Subtype.val)).2.put (klit pg) (pgD ⟨qa, qp, nd⟩)) by
        rw [List.map_append, List.map_cons, List.map_nil, chF_snoc]
        unfold chS
        rw [HR.out, HXF.out, HXP.out, hnn]
        have h := HPG.out
        rw [HXP.out] at h
        rw [h, HPD.out])
      refine ⟨(kf5.trans ((KeepsOthers.setCell _ _ _).from _)).trans (KeepsFrom.of_grownBy hg7 (fun j e => by have h := Option.some.inj e; omega)), (ks5.trans (KeepS.grown hg6 (fun k e cs f hh => ?_))).trans (KeepS.grown hg7 (fun k e cs f hh => ?_)), ⟨v6.kept hg7 (fun e => by have h := Option.some.inj e; omega), ?_, m7⟩, ?_, ?_⟩
      · cases e
        have h2 := w5
        unfold Whole at h2
        rw [h2] at hh
        cases hh
      · cases e
        obtain ⟨es, clock, hb, _⟩ := om6
        rw [hb] at hh
        cases hh
      · rw [HST.out]
        exact s6.kept hg7 (fun e => by have h := Option.some.inj e; omega)
      · rw [HST.out, List.length_append]
        exact om7
      · exact (b5.setCell (p := ⟨w1.heap.size, 2, none⟩) (by have := HI.out.2.2.size; have := HB1.out.size; simp; omega) _).grown hg7 (by have := HI.out.2.2.size; have := HB1.out.size; simp [World.setCell]; omega) (fun k e => by have h := Option.some.inj e; omega)
    · refine wpAnyH_ready (rs := [0, 6]) (by kernel_rfl) (by simp) ?_
      refine AllReadyH.cons rfl (fun K hK => ?_) (AllReadyH.cons rfl (fun K hK => ?_) AllReadyH.nil)
      · go_simp
        refine hK.out _ _ q3 (fun _ => ?_)
        clear hK K
        (try simp only [Act.put])
        refine wpAnyH_ready (rs := [6]) (by kernel_rfl) (by simp) ?_
        refine AllReadyH.cons rfl (fun K hK => ?_) AllReadyH.nil
        refine step_copy_str rfl (.tmp 37) (.tmp 38) 51 9 rfl 5 Try.underlying51 hz1 (w1.heap.size + 1) xf.toNat (256 - xf.toNat) (cp - xf.toNat) nn rfl r rfl hn1 hcc hcf ?_
        generalize V.setCells (w1.heap.size + 1) xf.toNat ((r.data.toList.take nn).map fun x => Value.int .u8 (x.toNat : Int)) = V4 at *
        refine hK.out _ _ q34 (fun _ => ?_)
        clear hK K
        (try simp only [Act.put])
        refine wpAnyH_take (i := 7) (v := ?_) rfl (by kernel_rfl) (by kernel_rfl) (by kernel_rfl) (fun _ _ _ h => nomatch h.1) (Or.inl ⟨by rfl, ?_⟩) (by assumption) ?_
        rotate_left
        · intro w s1; (try dsimp only at s1); go_simp; try (with_reducible rfl)
        (try simp only [Act.put])
        refine wpAnyH_ready (rs := [8]) (by kernel_rfl) (by simp) ?_
        refine AllReadyH.cons rfl (fun K hK => ?_) AllReadyH.nil
        go_simp
        refine hK.out _ _ q35 (fun _ => ?_)
        clear hK K
        (try simp only [Act.put])
        refine wpAnyH_done (by kernel_rfl) ?_ _
        refine ⟨rfl, ?_⟩
        have hne : Bx ≠ w.heap.size + 1 := fun e => by
          have h := x4
          unfold BoxedS at h
          have h2 := e2'
          unfold Boxed at h2
          rw [e, h2] at h
          cases h
        have p5 : (V4.setCell ⟨w.heap.size + 1, 0, none⟩ (.string (r.extract nn r.size))).heap[w1.heap.size]? = _ := (Below.heap_setCell _ _ _ _ (by simp; omega)).trans p4
        have gg5 : (V4.setCell ⟨w.heap.size + 1, 0, none⟩ (.string (r.extract nn r.size))).heap[w1.heap.size + 1]? = _ := (Below.heap_setCell _ _ _ _ (by simp; omega)).trans gg4
        have s5 : Boxed (V4.setCell ⟨w.heap.size + 1, 0, none⟩ (.string (r.extract nn r.size))) (w.heap.size + 1) 9 (.string (r.extract nn r.size)) := e2'.set _
        have v5 := (boxed_below HI.out.1.1 hB4).other (B' := w.heap.size + 1) (by omega) (.string (r.extract nn r.size))
        have m5 := (boxed_below HI.out.1.2.2 hB4).other (B' := w.heap.size + 1) (by omega) (.string (r.extract nn r.size))
        have om5 := (HI.out.2.1.kept (w' := V4) (row := none) ⟨hB4.os, hB4.tape, hB4.output, hB4.size, fun k hk _ => hB4.block k hk⟩ (by simp)).kept (grownBy_setCell' V4 (w.heap.size + 1) (.string (r.extract nn r.size))) (by simp)
        have x5 : BoxedS (V4.setCell ⟨w.heap.size + 1, 0, none⟩ (.string (r.extract nn r.size))) Bx x.1 := (Below.heap_setCell _ _ _ _ hne).trans x4
        have b5 : Below w.heap.size w (V4.setCell ⟨w.heap.size + 1, 0, none⟩ (.string (r.extract nn r.size))) := (bthen HI.out.2.2 hB4).setCell (p := ⟨w.heap.size + 1, 0, none⟩) (by simp) _
        have kf5 : KeepsFrom W0.heap.size W (V4.setCell ⟨w.heap.size + 1, 0, none⟩ (.string (r.extract nn r.size))) := (keeps_below _ hB4).trans ((KeepsOthers.setCell _ _ _).from _)
        have ks5 : KeepS W (V4.setCell ⟨w.heap.size + 1, 0, none⟩ (.string (r.extract nn r.size))) := (KeepS.below hB4).trans (KeepS.grown (grownBy_setCell' V4 (w.heap.size + 1) _) (fun k e cs f hh => by
          cases e
          have h2 := e2'
          unfold Boxed at h2
          rw [h2] at hh
          cases hh))
        have h5 : (V4.setCell ⟨w.heap.size + 1, 0, none⟩ (.string (r.extract nn r.size))).heap.size = w1.heap.size + 2 := by simp [World.setCell]; exact hS4
        generalize V4.setCell ⟨w.heap.size + 1, 0, none⟩ (.string (r.extract nn r.size)) = V5 at *
        have hnd := patch_cells d r ⟨qa, qp, d⟩ xf nn rfl hnn (by omega) (List.replicate (cp - d.size) (Value.int .u8 0))
        have hbc : ((r.data.toList.take nn).map fun x => Value.int .u8 (x.toNat : Int)) = Lib.byteCells (r.data.toList.take nn) := rfl
        rw [hbc, hnd.1] at gg5
        have hnl := hnd.2
        have HPD := Lib.hid (show patch ⟨qa, qp, d⟩ xf r = ⟨qa, qp, (patch ⟨qa, qp, d⟩ xf r).d⟩ from rfl)
        obtain ⟨nd, hnd'⟩ : ∃ nd, (patch ⟨qa, qp, d⟩ xf r).d = nd := ⟨_, rfl⟩
        rw [hnd'] at gg5 hnl HPD
        have hcv2 : (convert 51 9 (.slice (some ⟨w1.heap.size + 1, 0, none⟩) 256 cp)).run Try.prog V5 = .ok (.string nd) V5 := by
          have h := run_convert_bytes_arg V5 51 5 Try.underlying51 Try.underlying5 (w1.heap.size + 1) 0 256 cp (nd.data.toList.map (fun b => (b.toNat : Int))) (by rw [List.length_map, ← Lib.size_eq]; omega) (fun i hi => by
            rw [Nat.zero_add, cell_of_row V5 _ i _ _ _ gg5, List.getElem?_toArray, List.getElem?_append_left (by rw [Lib.byteCells_length, ← Lib.size_eq]; omega)]
            have hi2 : i < nd.data.toList.length := by rw [← Lib.size_eq]; omega
            simp only [Lib.byteCells, List.getElem?_map, List.getD_eq_getElem?_getD, List.getElem?_eq_getElem hi2]
            rfl) 9 Try.underlying9
          rw [h]
          simp [strOfNums, Function.comp_def]
        have HG5 := Lib.hid gg5
        have w5 : Whole V5 w1.heap.size 70 #[.int .u64 qa, .int .i64 qp, .string d] := p5
        have cp2 : V5.cell? ⟨w1.heap.size, 2, none⟩ = some (.string d) := w5.cell 2
        have fp2 := w5.free 2
        have w6 : Whole (V5.setCell ⟨w1.heap.size, 2, none⟩ (.string nd)) w1.heap.size 70 #[.int .u64 qa, .int .i64 qp, .string nd] := w5.put 2 _
        have k0 : (V5.setCell ⟨w1.heap.size, 2, none⟩ (.string nd)).cell? ⟨w1.heap.size, 0, none⟩ = some (.int .u64 qa) := w6.cell 0
        have k1' : (V5.setCell ⟨w1.heap.size, 2, none⟩ (.string nd)).cell? ⟨w1.heap.size, 1, none⟩ = some (.int .i64 qp) := w6.cell 1
        have k2 : (V5.setCell ⟨w1.heap.size, 2, none⟩ (.string nd)).cell? ⟨w1.heap.size, 2, none⟩ = some (.string nd) := w6.cell 2
        have zl3 := HI.out.1.2.2.lt
        have xl := HX.out.lt
        have m6 : (V5.setCell ⟨w1.heap.size, 2, none⟩ (.string nd)).cell? ⟨w.heap.size + 1 + 1 + 1, 0, none⟩ = some (.map (some (w.heap.size + 1 + 1))) := by
          rw [World.cell?_setCell_other _ _ _ _ (fun e => by have h := congrArg Addr.block e; simp at h; omega)]; exact m5.cell
        have x6 : (V5.setCell ⟨w1.heap.size, 2, none⟩ (.string nd)).cell? ⟨Bx, 0, none⟩ = some (.int .u64 pg) := by
          rw [World.cell?_setCell_other _ _ _ _ (fun e => by have h := congrArg Addr.block e; simp at h; omega)]
          have h := x5.cells.1
          rw [HXP.out] at h
          exact h
        have hg6 : V5.grownBy (V5.setCell ⟨w1.heap.size, 2, none⟩ (.string nd)) (some w1.heap.size) := grownBy_put _ _ _ _
        have om6 := om5.kept hg6 (by have := HI.out.2.1.lt; intro e; have h := Option.some.inj e; omega)
        have HW := Lib.hid (show V5.heap.size = w1.heap.size + 2 from h5)
        have HNX := Lib.hid (show pre.length < maxLen by
          have h1 := HLN.out
          have h2 := M.strs_len (a := a) (n := (l.size : Int))
          unfold maxLen; omega)
        have HPG0 := Lib.hid (show 0 ≤ pg ∧ pg ≤ 18446744073709551615 by
          have h1 := HO.out.pg0
          have h2 := HO.out.pg1
          rw [HXP.out] at h1 h2
          omega)
        clear hcc hcf hbl hn1 hn2 hn3 hn4 hn5 hz1 cS fS q3 q34 q35 cS4 fS4 e2' x4 p4 gg4 gg5 hnd hbc p5 g1 g2 g3 g4 g5 g6 hP3 hG3 hB3 hS3 d4 d2 hrow hlen hcv HCP hnl hne
        gi_wp2_with (gi_at_mapUpdate; refine wpListIn_mapUpdate_own _ rfl _ _ _ 106 rfl 109 70 keyed Try.underlying106 _ (w.heap.size + 1 + 1) pre.length _ rfl om6 HNX.out _ _ _ rfl rfl (klit_of (x := pg) HPG0.out.1 HPG0.out.2) _ [] (pageR_of ⟨qa, qp, nd⟩) ?_; intro W7 om7 hg7)
        have s6 : Boxed (V5.setCell ⟨w1.heap.size, 2, none⟩ (.string nd)) (w.heap.size + 1) 9 (.string (r.extract nn r.size)) := s5.kept hg6 (fun e => by have h := Option.some.inj e; omega)
        have v6 := v5.kept hg6 (fun e => by have h := Option.some.inj e; omega)
        have m7 := (m5.kept hg6 (fun e => by have h := Option.some.inj e; omega)).kept hg7 (fun e => by have h := Option.some.inj e; omega)
        have HST := Lib.hid (show chF m l ((pre ++ [x]).map Subtype.val) = (r.extract nn r.size, (chF m l (pre.map Subtype.val)).2.put (klit pg) (pgD ⟨qa, qp, nd⟩)) by
          rw [List.map_append, List.map_cons, List.map_nil, chF_snoc]
          unfold chS
          rw [HR.out, HXF.out, HXP.out, hnn]
          have h := HPG.out
          rw [HXP.out] at h
          rw [h, HPD.out])
        refine ⟨(kf5.trans ((KeepsOthers.setCell _ _ _).from _)).trans (KeepsFrom.of_grownBy hg7 (fun j e => by have h := Option.some.inj e; omega)), (ks5.trans (KeepS.grown hg6 (fun k e cs f hh => ?_))).trans (KeepS.grown hg7 (fun k e cs f hh => ?_)), ⟨v6.kept hg7 (fun e => by have h := Option.some.inj e; omega), ?_, m7⟩, ?_, ?_⟩
        · cases e
          have h2 := w5
          unfold Whole at h2
          rw [h2] at hh
          cases hh
        · cases e
          obtain ⟨es, clock, hb, _⟩ := om6
          rw [hb] at hh
          cases hh
        · rw [HST.out]
          exact s6.kept hg7 (fun e => by have h := Option.some.inj e; omega)
        · rw [HST.out, List.length_append]
          exact om7
        · exact (b5.setCell (p := ⟨w1.heap.size, 2, none⟩) (by have := HI.out.2.2.size; have := HB1.out.size; simp; omega) _).grown hg7 (by have := HI.out.2.2.size; have := HB1.out.size; simp [World.setCell]; omega) (fun k e => by have h := Option.some.inj e; omega)
      · refine step_copy_str rfl (.tmp 37) (.tmp 38) 51 9 rfl 5 Try.underlying51 hz1 (w1.heap.size + 1) xf.toNat (256 - xf.toNat) (cp - xf.toNat) nn rfl r rfl hn1 hcc hcf ?_
        generalize V.setCells (w1.heap.size + 1) xf.toNat ((r.data.toList.take nn).map fun x => Value.int .u8 (x.toNat : Int)) = V4 at *
        refine hK.out _ _ q34 (fun _ => ?_)
        clear hK K
        (try simp only [Act.put])
        refine wpAnyH_ready (rs := [0]) (by kernel_rfl) (by simp) ?_
        refine AllReadyH.cons rfl (fun K hK => ?_) AllReadyH.nil
        go_simp
        refine hK.out _ _ q34 (fun _ => ?_)
        clear hK K
        (try simp only [Act.put])
        refine wpAnyH_take (i := 7) (v := ?_) rfl (by kernel_rfl) (by kernel_rfl) (by kernel_rfl) (fun _ _ _ h => nomatch h.1) (Or.inl ⟨by rfl, ?_⟩) (by assumption) ?_
        rotate_left
        · intro w s1; (try dsimp only at s1); go_simp; try (with_reducible rfl)
        (try simp only [Act.put])
        refine wpAnyH_ready (rs := [8]) (by kernel_rfl) (by simp) ?_
        refine AllReadyH.cons rfl (fun K hK => ?_) AllReadyH.nil
        go_simp
        refine hK.out _ _ q35 (fun _ => ?_)
        clear hK K
        (try simp only [Act.put])
        refine wpAnyH_done (by kernel_rfl) ?_ _
        refine ⟨rfl, ?_⟩
        have hne : Bx ≠ w.heap.size + 1 := fun e => by
          have h := x4
          unfold BoxedS at h
          have h2 := e2'
          unfold Boxed at h2
          rw [e, h2] at h
          cases h
        have p5 : (V4.setCell ⟨w.heap.size + 1, 0, none⟩ (.string (r.extract nn r.size))).heap[w1.heap.size]? = _ := (Below.heap_setCell _ _ _ _ (by simp; omega)).trans p4
        have gg5 : (V4.setCell ⟨w.heap.size + 1, 0, none⟩ (.string (r.extract nn r.size))).heap[w1.heap.size + 1]? = _ := (Below.heap_setCell _ _ _ _ (by simp; omega)).trans gg4
        have s5 : Boxed (V4.setCell ⟨w.heap.size + 1, 0, none⟩ (.string (r.extract nn r.size))) (w.heap.size + 1) 9 (.string (r.extract nn r.size)) := e2'.set _
        have v5 := (boxed_below HI.out.1.1 hB4).other (B' := w.heap.size + 1) (by omega) (.string (r.extract nn r.size))
        have m5 := (boxed_below HI.out.1.2.2 hB4).other (B' := w.heap.size + 1) (by omega) (.string (r.extract nn r.size))
        have om5 := (HI.out.2.1.kept (w' := V4) (row := none) ⟨hB4.os, hB4.tape, hB4.output, hB4.size, fun k hk _ => hB4.block k hk⟩ (by simp)).kept (grownBy_setCell' V4 (w.heap.size + 1) (.string (r.extract nn r.size))) (by simp)
        have x5 : BoxedS (V4.setCell ⟨w.heap.size + 1, 0, none⟩ (.string (r.extract nn r.size))) Bx x.1 := (Below.heap_setCell _ _ _ _ hne).trans x4
        have b5 : Below w.heap.size w (V4.setCell ⟨w.heap.size + 1, 0, none⟩ (.string (r.extract nn r.size))) := (bthen HI.out.2.2 hB4).setCell (p := ⟨w.heap.size + 1, 0, none⟩) (by simp) _
        have kf5 : KeepsFrom W0.heap.size W (V4.setCell ⟨w.heap.size + 1, 0, none⟩ (.string (r.extract nn r.size))) := (keeps_below _ hB4).trans ((KeepsOthers.setCell _ _ _).from _)
        have ks5 : KeepS W (V4.setCell ⟨w.heap.size + 1, 0, none⟩ (.string (r.extract nn r.size))) := (KeepS.below hB4).trans (KeepS.grown (grownBy_setCell' V4 (w.heap.size + 1) _) (fun k e cs f hh => by
          cases e
          have h2 := e2'
          unfold Boxed at h2
          rw [h2] at hh
          cases hh))
        have h5 : (V4.setCell ⟨w.heap.size + 1, 0, none⟩ (.string (r.extract nn r.size))).heap.size = w1.heap.size + 2 := by simp [World.setCell]; exact hS4
        generalize V4.setCell ⟨w.heap.size + 1, 0, none⟩ (.string (r.extract nn r.size)) = V5 at *
        have hnd := patch_cells d r ⟨qa, qp, d⟩ xf nn rfl hnn (by omega) (List.replicate (cp - d.size) (Value.int .u8 0))
        have hbc : ((r.data.toList.take nn).map fun x => Value.int .u8 (x.toNat : Int)) = Lib.byteCells (r.data.toList.take nn) := rfl
        rw [hbc, hnd.1] at gg5
        have hnl := hnd.2
        have HPD := Lib.hid (show patch ⟨qa, qp, d⟩ xf r = ⟨qa, qp, (patch ⟨qa, qp, d⟩ xf r).d⟩ from rfl)
        obtain ⟨nd, hnd'⟩ : ∃ nd, (patch ⟨qa, qp, d⟩ xf r).d = nd := ⟨_, rfl⟩
        rw [hnd'] at gg5 hnl HPD
        have hcv2 : (convert 51 9 (.slice (some ⟨w1.heap.size + 1, 0, none⟩) 256 cp)).run Try.prog V5 = .ok (.string nd) V5 := by
          have h := run_convert_bytes_arg V5 51 5 Try.underlying51 Try.underlying5 (w1.heap.size + 1) 0 256 cp (nd.data.toList.map (fun b => (b.toNat : Int))) (by rw [List.length_map, ← Lib.size_eq]; omega) (fun i hi => by
            rw [Nat.zero_add, cell_of_row V5 _ i _ _ _ gg5, List.getElem?_toArray, List.getElem?_append_left (by rw [Lib.byteCells_length, ← Lib.size_eq]; omega)]
            have hi2 : i < nd.data.toList.length := by rw [← Lib.size_eq]; omega
            simp only [Lib.byteCells, List.getElem?_map, List.getD_eq_getElem?_getD, List.getElem?_eq_getElem hi2]
            rfl) 9 Try.underlying9
          rw [h]
          simp [strOfNums, Function.comp_def]
        have HG5 := Lib.hid gg5
        have w5 : Whole V5 w1.heap.size 70 #[.int .u64 qa, .int .i64 qp, .string d] := p5
        have cp2 : V5.cell? ⟨w1.heap.size, 2, none⟩ = some (.string d) := w5.cell 2
        have fp2 := w5.free 2
        have w6 : Whole (V5.setCell ⟨w1.heap.size, 2, none⟩ (.string nd)) w1.heap.size 70 #[.int .u64 qa, .int .i64 qp, .string nd] := w5.put 2 _
        have k0 : (V5.setCell ⟨w1.heap.size, 2, none⟩ (.string nd)).cell? ⟨w1.heap.size, 0, none⟩ = some (.int .u64 qa) := w6.cell 0
        have k1' : (V5.setCell ⟨w1.heap.size, 2, none⟩ (.string nd)).cell? ⟨w1.heap.size, 1, none⟩ = some (.int .i64 qp) := w6.cell 1
        have k2 : (V5.setCell ⟨w1.heap.size, 2, none⟩ (.string nd)).cell? ⟨w1.heap.size, 2, none⟩ = some (.string nd) := w6.cell 2
        have zl3 := HI.out.1.2.2.lt
        have xl := HX.out.lt
        have m6 : (V5.setCell ⟨w1.heap.size, 2, none⟩ (.string nd)).cell? ⟨w.heap.size + 1 + 1 + 1, 0, none⟩ = some (.map (some (w.heap.size + 1 + 1))) := by
          rw [World.cell?_setCell_other _ _ _ _ (fun e => by have h := congrArg Addr.block e; simp at h; omega)]; exact m5.cell
        have x6 : (V5.setCell ⟨w1.heap.size, 2, none⟩ (.string nd)).cell? ⟨Bx, 0, none⟩ = some (.int .u64 pg) := by
          rw [World.cell?_setCell_other _ _ _ _ (fun e => by have h := congrArg Addr.block e; simp at h; omega)]
          have h := x5.cells.1
          rw [HXP.out] at h
          exact h
        have hg6 : V5.grownBy (V5.setCell ⟨w1.heap.size, 2, none⟩ (.string nd)) (some w1.heap.size) := grownBy_put _ _ _ _
        have om6 := om5.kept hg6 (by have := HI.out.2.1.lt; intro e; have h := Option.some.inj e; omega)
        have HW := Lib.hid (show V5.heap.size = w1.heap.size + 2 from h5)
        have HNX := Lib.hid (show pre.length < maxLen by
          have h1 := HLN.out
          have h2 := M.strs_len (a := a) (n := (l.size : Int))
          unfold maxLen; omega)
        have HPG0 := Lib.hid (show 0 ≤ pg ∧ pg ≤ 18446744073709551615 by
          have h1 := HO.out.pg0
          have h2 := HO.out.pg1
          rw [HXP.out] at h1 h2
          omega)
        clear hcc hcf hbl hn1 hn2 hn3 hn4 hn5 hz1 cS fS q3 q34 q35 cS4 fS4 e2' x4 p4 gg4 gg5 hnd hbc p5 g1 g2 g3 g4 g5 g6 hP3 hG3 hB3 hS3 d4 d2 hrow hlen hcv HCP hnl hne
        gi_wp2_with (gi_at_mapUpdate; refine wpListIn_mapUpdate_own _ rfl _ _ _ 106 rfl 109 70 keyed Try.underlying106 _ (w.heap.size + 1 + 1) pre.length _ rfl om6 HNX.out _ _ _ rfl rfl (klit_of (x := pg) HPG0.out.1 HPG0.out.2) _ [] (pageR_of ⟨qa, qp, nd⟩) ?_; intro W7 om7 hg7)
        have s6 : Boxed (V5.setCell ⟨w1.heap.size, 2, none⟩ (.string nd)) (w.heap.size + 1) 9 (.string (r.extract nn r.size)) := s5.kept hg6 (fun e => by have h := Option.some.inj e; omega)
        have v6 := v5.kept hg6 (fun e => by have h := Option.some.inj e; omega)
        have m7 := (m5.kept hg6 (fun e => by have h := Option.some.inj e; omega)).kept hg7 (fun e => by have h := Option.some.inj e; omega)
        have HST := Lib.hid (show chF m l ((pre ++ [x]).map Subtype.val) = (r.extract nn r.size, (chF m l (pre.map Subtype.val)).2.put (klit pg) (pgD ⟨qa, qp, nd⟩)) by
          rw [List.map_append, List.map_cons, List.map_nil, chF_snoc]
          unfold chS
          rw [HR.out, HXF.out, HXP.out, hnn]
          have h := HPG.out
          rw [HXP.out] at h
          rw [h, HPD.out])
        refine ⟨(kf5.trans ((KeepsOthers.setCell _ _ _).from _)).trans (KeepsFrom.of_grownBy hg7 (fun j e => by have h := Option.some.inj e; omega)), (ks5.trans (KeepS.grown hg6 (fun k e cs f hh => ?_))).trans (KeepS.grown hg7 (fun k e cs f hh => ?_)), ⟨v6.kept hg7 (fun e => by have h := Option.some.inj e; omega), ?_, m7⟩, ?_, ?_⟩
        · cases e
          have h2 := w5
          unfold Whole at h2
          rw [h2] at hh
          cases hh
        · cases e
          obtain ⟨es, clock, hb, _⟩ := om6
          rw [hb] at hh
          cases hh
        · rw [HST.out]
          exact s6.kept hg7 (fun e => by have h := Option.some.inj e; omega)
        · rw [HST.out, List.length_append]
          exact om7
        · exact (b5.setCell (p := ⟨w1.heap.size, 2, none⟩) (by have := HI.out.2.2.size; have := HB1.out.size; simp; omega) _).grown hg7 (by have := HI.out.2.2.size; have := HB1.out.size; simp [World.setCell]; omega) (fun k e => by have h := Option.some.inj e; omega)
  case done =>
    rintro D ys W hD hys ⟨⟨b1, b2, b3⟩, om, hb⟩ hK
    have c3 := b3.cell
    have HK := Lib.hid hK
    have HB := Lib.hid hb
    rw [hys] at om
    have HM := Lib.hid om
    clear b1 b2 b3 hb hK om hys
    gi_wp2_with (fail)
    refine ⟨by simp, .inl ⟨_, _, rfl, run_takeDeferred HK.out, ?_⟩⟩
    exact ⟨_, results_tmp rfl _ _ _, ⟨w.heap.size + 1 + 1, ys.length, rfl, by omega, HM.out.kept (grownBy_putObj' W D _) (fun e => by have h := Option.some.inj e; omega), HB.out.trans (belowK_b (w := w) (Nat.le_refl _) W D _ _ (by omega) HK.out rfl rfl)⟩⟩
  case stop =>
    rintro D c pre W _ _ h _
    exact h.elim
end Go.Proofs.Ytpifndpbmjmglaa
