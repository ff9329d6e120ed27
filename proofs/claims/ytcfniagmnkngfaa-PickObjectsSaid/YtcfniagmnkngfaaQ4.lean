/- Package pick: rows that are cloned: instructions, blocks, functions, globals. -/
import Derived.Test.YtcfniagmnkngfaaBK
import Derived.Test.YtcfniagmnkngfaaBL
import Derived.Laws.OwnMore
namespace Go.Proofs.Ytcfniagmnkngfaa
open Go.RowKit

/-- a thing lies as well where the same cells lie -/
def Moves {α : Type} (sz : Nat) (P : World → Nat → Nat → α → Prop) : Prop := ∀ (W W' : World) (b off b' off' : Nat) (x : α), Below W.heap.size W W' → (∀ j, j < sz → W'.cell? ⟨b', off' + j, none⟩ = W.cell? ⟨b, off + j, none⟩) → P W b off x → P W' b' off' x
def OneCells {α : Type} (sz : Nat) (P : World → Nat → Nat → α → Prop) : Prop := ∀ (W : World) (b off : Nat) (x : α) (j : Nat), P W b off x → j < sz → ∃ u, W.cell? ⟨b, off + j, none⟩ = some u ∧ u.oneCell' = true
theorem cells_of {α : Type} {sz : Nat} {P : World → Nat → Nat → α → Prop} (h1 : OneCells sz P) (hsz : 0 < sz) {w : World} {b off : Nat} {l : List α} (h : ∀ (i : Nat) (hi : i < l.length), P w b (off + i * sz) l[i]) :
    ∃ ys : List Value, ys.length = l.length * sz ∧ (∀ j, j < l.length * sz → ys[j]? = w.cell? ⟨b, off + j, none⟩) ∧ (∀ u ∈ ys, u.oneCell' = true) := by
  have key : ∀ j, j < l.length * sz → ∃ u, w.cell? ⟨b, off + j, none⟩ = some u ∧ u.oneCell' = true := fun j hj => by
    have hi : j / sz < l.length := (Nat.div_lt_iff_lt_mul hsz).2 hj
    have e : off + j / sz * sz + j % sz = off + j := by
      have := Nat.div_add_mod' j sz
      omega
    have := h1 w b (off + j / sz * sz) l[j / sz] (j % sz) (h _ hi) (Nat.mod_lt _ hsz)
    rwa [e] at this
  refine ⟨(List.range (l.length * sz)).map (fun j => (w.cell? ⟨b, off + j, none⟩).getD (.bool false)), by simp, fun j hj => ?_, fun u hu => ?_⟩
  · obtain ⟨u, hu, -⟩ := key j hj
    rw [List.getElem?_map, List.getElem?_range hj, Option.map_some, hu]
    rfl
  · obtain ⟨j, hj, rfl⟩ := List.mem_map.1 hu
    obtain ⟨u, hu, h⟩ := key j (List.mem_range.1 hj)
    rw [hu]
    exact h
/-- a new row of the call's own with the same things -/
def NewRow {α : Type} (T : TypeId) (sz : Nat) (P : World → Nat → Nat → α → Prop) (l : List α) (v : Value) (w : World) (e : Ending) (w' : World) : Prop :=
  ∃ v' ys, e = .returned v' ∧ w'.ownsRow w.heap.size T sz v' l.length ys ∧ RowOf sz P w' v' l ∧ Below w.heap.size w w' ∧
    (0 < l.length → ∃ b off cap, v = .slice (some ⟨b, off, none⟩) l.length cap ∧ b < w.heap.size ∧ (∀ (i : Nat) (hi : i < l.length), P w b (off + i * sz) l[i]) ∧ ∀ j, j < l.length * sz → ys[j]? = w.cell? ⟨b, off + j, none⟩)
theorem row_new {α : Type} {sz : Nat} {P : World → Nat → Nat → α → Prop} (hM : Moves sz P) {w0 w' : World} {b off : Nat} {l : List α} (hbl : Below w0.heap.size w0 w') (hp : ∀ (i : Nat) (hi : i < l.length), P w0 b (off + i * sz) l[i])
    {base : Nat} {v : Value} {ys : List Value} {T : TypeId} (ho : w'.ownsRow base T sz v l.length ys) (hc : ∀ j, j < l.length * sz → ys[j]? = w0.cell? ⟨b, off + j, none⟩) (h0 : 0 < l.length) : RowOf sz P w' v l := by
  obtain ⟨g, cap, e, -, hlt⟩ := ho.form h0
  subst e
  refine .inr ⟨h0, g, 0, cap, rfl, hlt, fun i hi => hM w0 w' b (off + i * sz) g (0 + i * sz) l[i] hbl (fun j hj => ?_) (hp i hi)⟩
  have hlt2 : i * sz + j < l.length * sz := by
    have : (i + 1) * sz ≤ l.length * sz := Nat.mul_le_mul_right _ hi
    rw [Nat.add_mul, Nat.one_mul] at this
    omega
  rw [Nat.zero_add, ho.cellAt (i * sz + j) hlt2, hc _ hlt2, Nat.add_assoc]
theorem in_moves : Moves 6 InAt := by
  rintro W W' b off b' off' x hb hc ⟨h0, h1, h2, h3, h4, A, cap, h5, h6⟩
  have c0 := hc 0 (by omega)
  rw [Nat.add_zero, Nat.add_zero] at c0
  exact ⟨c0.trans h0, (hc 1 (by omega)).trans h1, (hc 2 (by omega)).trans h2, (hc 3 (by omega)).trans h3, (hc 4 (by omega)).trans h4, A, cap, (hc 5 (by omega)).trans h5, h6.next hb⟩
theorem bk_moves : Moves 8 BkAt := by
  rintro W W' b off b' off' x hb hc ⟨h0, ⟨A, c, h1, g1⟩, h2, h3, h4, ⟨A5, c5, h5, g5⟩, h6, A7, c7, h7, g7⟩
  have c0 := hc 0 (by omega)
  rw [Nat.add_zero, Nat.add_zero] at c0
  exact ⟨c0.trans h0, ⟨A, c, (hc 1 (by omega)).trans h1, g1.next hb⟩, (hc 2 (by omega)).trans h2, (hc 3 (by omega)).trans h3, (hc 4 (by omega)).trans h4, ⟨A5, c5, (hc 5 (by omega)).trans h5, g5.next hb⟩, (hc 6 (by omega)).trans h6, A7, c7, (hc 7 (by omega)).trans h7, g7.next hb⟩
theorem fn_moves : Moves 4 FnAt := by
  rintro W W' b off b' off' x hb hc ⟨h0, h1, h2, A, c, h3, g3⟩
  have c0 := hc 0 (by omega)
  rw [Nat.add_zero, Nat.add_zero] at c0
  exact ⟨c0.trans h0, (hc 1 (by omega)).trans h1, (hc 2 (by omega)).trans h2, A, c, (hc 3 (by omega)).trans h3, g3.next hb⟩
theorem gl_moves : Moves 4 GlAt := by
  rintro W W' b off b' off' x hb hc ⟨h0, h1, h2, h3⟩
  have c0 := hc 0 (by omega)
  rw [Nat.add_zero, Nat.add_zero] at c0
  exact ⟨c0.trans h0, (hc 1 (by omega)).trans h1, (hc 2 (by omega)).trans h2, (hc 3 (by omega)).trans h3⟩
theorem in_cells : OneCells 6 InAt := by
  rintro W b off x j ⟨h0, h1, h2, h3, h4, A, cap, h5, -⟩ hj
  match j, hj with
  | 0, _ => exact ⟨_, h0, rfl⟩
  | 1, _ => exact ⟨_, h1, rfl⟩
  | 2, _ => exact ⟨_, h2, rfl⟩
  | 3, _ => exact ⟨_, h3, rfl⟩
  | 4, _ => exact ⟨_, h4, rfl⟩
  | 5, _ => exact ⟨_, h5, rfl⟩
theorem bk_cells : OneCells 8 BkAt := by
  rintro W b off x j ⟨h0, ⟨A, c, h1, -⟩, h2, h3, h4, ⟨A5, c5, h5, -⟩, h6, A7, c7, h7, -⟩ hj
  match j, hj with
  | 0, _ => exact ⟨_, h0, rfl⟩
  | 1, _ => exact ⟨_, h1, rfl⟩
  | 2, _ => exact ⟨_, h2, rfl⟩
  | 3, _ => exact ⟨_, h3, rfl⟩
  | 4, _ => exact ⟨_, h4, rfl⟩
  | 5, _ => exact ⟨_, h5, rfl⟩
  | 6, _ => exact ⟨_, h6, rfl⟩
  | 7, _ => exact ⟨_, h7, rfl⟩
theorem fn_cells : OneCells 4 FnAt := by
  rintro W b off x j ⟨h0, h1, h2, A, c, h3, -⟩ hj
  match j, hj with
  | 0, _ => exact ⟨_, h0, rfl⟩
  | 1, _ => exact ⟨_, h1, rfl⟩
  | 2, _ => exact ⟨_, h2, rfl⟩
  | 3, _ => exact ⟨_, h3, rfl⟩
theorem gl_cells : OneCells 4 GlAt := by
  rintro W b off x j ⟨h0, h1, h2, h3⟩ hj
  match j, hj with
  | 0, _ => exact ⟨_, h0, rfl⟩
  | 1, _ => exact ⟨_, h1, rfl⟩
  | 2, _ => exact ⟨_, h2, rfl⟩
  | 3, _ => exact ⟨_, h3, rfl⟩
theorem in_inf : (Try.prog.info? 85).map (fun i => (i.zero, i.size, i.bytes)) = some (some (.agg #[.int .i64 0, .int .i64 0, .int .i64 0, .int .u64 0, .string ⟨#[]⟩, .slice none 0 0]), 6, 72) := by kernel_rfl
theorem bk_inf : (Try.prog.info? 90).map (fun i => (i.zero, i.size, i.bytes)) = some (some (.agg #[.int .i64 0, .slice none 0 0, .int .i64 0, .int .i64 0, .int .i64 0, .slice none 0 0, .int .i64 0, .slice none 0 0]), 8, 112) := by kernel_rfl
theorem gl_inf : (Try.prog.info? 80).map (fun i => (i.zero, i.size, i.bytes)) = some (some (.agg #[.string ⟨#[]⟩, .int .i64 0, .bool false, .int .u64 0]), 4, 40) := by kernel_rfl
set_option maxRecDepth 100000 in
set_option maxHeartbeats 2000000 in
/-- slices.Clone: a new row with the same, or nil -/
theorem cloneIns_any {l : List In} {v : Value} {w : World} (hP : Insts w v l) (hn : l.length * 72 ≤ 140737488355328) :
    Calls Try.prog 154 #[v] w (NewRow 85 6 InAt l v w) := by
  have HN := Lib.hid hn
  clear hn
  have q22 : ∀ (W : World) (a : Option Addr) (n c n' c' : Nat), (binOp .eql 86 (.slice a n c) (.slice none n' c')).run Try.prog W = .ok (.bool a.isNone) W := fun W a n c n' c' => Lib.run_eql_slice_nil W _ _ a n c n' c' Try.underlying86
  have O0 := fun W : World => Lib.hid (show (W.alloc (.cells #[] 85)).ownsRow W.heap.size 85 6 (.slice (some ⟨W.heap.size, 0, none⟩) 0 0) 0 [] from ⟨rfl, .inr ⟨W.heap.size, 0, #[], rfl, Nat.le_refl _, heap_alloc_new _ _, Nat.le_refl _, by unfold maxLen; omega, rfl, rfl⟩⟩)
  rcases hP with ⟨rfl, rfl | ⟨a, cap, rfl⟩⟩ | ⟨h0, b, off, cap, rfl, hb, hp⟩
  · go_enter Try.func154, Try.ntmps154
    go_wp2_with fail
    go_ret
    exact ⟨_, [], rfl, ⟨rfl, .inl ⟨rfl, rfl⟩⟩, .inl ⟨rfl, .inl rfl⟩, Below.refl _ _, fun h => absurd h (by simp)⟩
  · obtain ⟨i0, hi, hz0, hz1, hz2⟩ := info_parts in_inf
    have HII := Lib.hid (And.intro hi (And.intro hz0 (And.intro hz1 hz2)))
    have H0 := O0 w
    clear hi hz0 hz1 hz2 O0
    go_enter Try.func154, Try.ntmps154
    go_wp2_with fail
    go_ret
    exact ⟨_, [], rfl, H0.out, .inl ⟨rfl, .inr ⟨_, _, rfl⟩⟩, balloc (Below.refl _ _) _, fun h => absurd h (by simp)⟩
  · obtain ⟨i0, hi, hz0, hz1, hz2⟩ := info_parts in_inf
    have HII := Lib.hid (And.intro hi (And.intro hz0 (And.intro hz1 hz2)))
    obtain ⟨ys, hyl, hyc, hy1⟩ := cells_of in_cells (by decide) hp
    have HYL := Lib.hid hyl
    have HYC := Lib.hid hyc
    have HY1 := Lib.hid hy1
    have HP := Lib.hid hp
    have HL0 := Lib.hid h0
    have HBL := Lib.hid hb
    have HNE := Lib.hid (show ∀ j u, ys[j]? = some u → (w.alloc (.cells #[] 85)).cell? ((⟨b, off, none⟩ : Addr).add j) = some u from fun j u hj => by
      rw [int_add]
      have hj2 : j < l.length * 6 := by have := (List.getElem?_eq_some_iff.1 hj).1; omega
      rw [cellNext hb (balloc (Below.refl _ _) _), ← hyc j hj2]
      exact hj)
    obtain ⟨n, hn⟩ : ∃ n, l.length = n := ⟨_, rfl⟩
    rw [hn] at HYL
    rw [hn]
    have HNN := Lib.hid hn
    have H0 := O0 w
    have HM63 := Lib.hid (show 0 + n ≤ maxLen by unfold maxLen; have := HN.out; omega)
    have HM := Lib.hid (show (0 + n) * 72 ≤ 140737488355328 by have := HN.out; omega)
    clear hn hp h0 hb hi hz0 hz1 hz2 O0 hyl hyc hy1
    go_enter Try.func154, Try.ntmps154
    go_wp2_with (at_builtin; go_loud (refine wpList_append_own _ rfl _ _ 86 rfl w.heap.size 85 i0 _ 6 72 Try.underlying86 HII.out.1 HII.out.2.1 HII.out.2.2.1 HII.out.2.2.2 rfl (by decide) (.slice (some ⟨w.heap.size, 0, none⟩) 0 0) 0 [] rfl H0.out ⟨b, off, none⟩ n cap ys rfl HYL.out HNE.out HY1.out HM63.out HM.out (by simp) ?_; intro v' w1 hown hgrow hnil))
    have HO := Lib.hid hown
    have HB := Lib.hid ((balloc (Below.refl _ w) _).grown hgrow (by simp) (fun k hk => by cases hk; exact Nat.le_refl _))
    clear hown hgrow hnil
    go_wp2_with fail
    go_ret
    have ho : w1.ownsRow w.heap.size 85 6 v' l.length ys := by
      have := HO.out
      rw [Nat.zero_add, List.nil_append] at this
      rw [HNN.out]
      exact this
    exact ⟨_, ys, rfl, ho, row_new in_moves HB.out HP.out ho HYC.out HL0.out, HB.out, fun _ => ⟨b, off, cap, by rw [HNN.out], HBL.out, HP.out, HYC.out⟩⟩
set_option maxRecDepth 100000 in
set_option maxHeartbeats 2000000 in
/-- slices.Clone: a new row with the same, or nil -/
theorem cloneBks_any {l : List Bk} {v : Value} {w : World} (hP : Blocks w v l) (hn : l.length * 112 ≤ 140737488355328) :
    Calls Try.prog 153 #[v] w (NewRow 90 8 BkAt l v w) := by
  have HN := Lib.hid hn
  clear hn
  have q22 : ∀ (W : World) (a : Option Addr) (n c n' c' : Nat), (binOp .eql 76 (.slice a n c) (.slice none n' c')).run Try.prog W = .ok (.bool a.isNone) W := fun W a n c n' c' => Lib.run_eql_slice_nil W _ _ a n c n' c' Try.underlying76
  have O0 := fun W : World => Lib.hid (show (W.alloc (.cells #[] 90)).ownsRow W.heap.size 90 8 (.slice (some ⟨W.heap.size, 0, none⟩) 0 0) 0 [] from ⟨rfl, .inr ⟨W.heap.size, 0, #[], rfl, Nat.le_refl _, heap_alloc_new _ _, Nat.le_refl _, by unfold maxLen; omega, rfl, rfl⟩⟩)
  rcases hP with ⟨rfl, rfl | ⟨a, cap, rfl⟩⟩ | ⟨h0, b, off, cap, rfl, hb, hp⟩
  · go_enter Try.func153, Try.ntmps153
    go_wp2_with fail
    go_ret
    exact ⟨_, [], rfl, ⟨rfl, .inl ⟨rfl, rfl⟩⟩, .inl ⟨rfl, .inl rfl⟩, Below.refl _ _, fun h => absurd h (by simp)⟩
  · obtain ⟨i0, hi, hz0, hz1, hz2⟩ := info_parts bk_inf
    have HII := Lib.hid (And.intro hi (And.intro hz0 (And.intro hz1 hz2)))
    have H0 := O0 w
    clear hi hz0 hz1 hz2 O0
    go_enter Try.func153, Try.ntmps153
    go_wp2_with fail
    go_ret
    exact ⟨_, [], rfl, H0.out, .inl ⟨rfl, .inr ⟨_, _, rfl⟩⟩, balloc (Below.refl _ _) _, fun h => absurd h (by simp)⟩
  · obtain ⟨i0, hi, hz0, hz1, hz2⟩ := info_parts bk_inf
    have HII := Lib.hid (And.intro hi (And.intro hz0 (And.intro hz1 hz2)))
    obtain ⟨ys, hyl, hyc, hy1⟩ := cells_of bk_cells (by decide) hp
    have HYL := Lib.hid hyl
    have HYC := Lib.hid hyc
    have HY1 := Lib.hid hy1
    have HP := Lib.hid hp
    have HL0 := Lib.hid h0
    have HBL := Lib.hid hb
    have HNE := Lib.hid (show ∀ j u, ys[j]? = some u → (w.alloc (.cells #[] 90)).cell? ((⟨b, off, none⟩ : Addr).add j) = some u from fun j u hj => by
      rw [int_add]
      have hj2 : j < l.length * 8 := by have := (List.getElem?_eq_some_iff.1 hj).1; omega
      rw [cellNext hb (balloc (Below.refl _ _) _), ← hyc j hj2]
      exact hj)
    obtain ⟨n, hn⟩ : ∃ n, l.length = n := ⟨_, rfl⟩
    rw [hn] at HYL
    rw [hn]
    have HNN := Lib.hid hn
    have H0 := O0 w
    have HM63 := Lib.hid (show 0 + n ≤ maxLen by unfold maxLen; have := HN.out; omega)
    have HM := Lib.hid (show (0 + n) * 112 ≤ 140737488355328 by have := HN.out; omega)
    clear hn hp h0 hb hi hz0 hz1 hz2 O0 hyl hyc hy1
    go_enter Try.func153, Try.ntmps153
    go_wp2_with (at_builtin; go_loud (refine wpList_append_own _ rfl _ _ 76 rfl w.heap.size 90 i0 _ 8 112 Try.underlying76 HII.out.1 HII.out.2.1 HII.out.2.2.1 HII.out.2.2.2 rfl (by decide) (.slice (some ⟨w.heap.size, 0, none⟩) 0 0) 0 [] rfl H0.out ⟨b, off, none⟩ n cap ys rfl HYL.out HNE.out HY1.out HM63.out HM.out (by simp) ?_; intro v' w1 hown hgrow hnil))
    have HO := Lib.hid hown
    have HB := Lib.hid ((balloc (Below.refl _ w) _).grown hgrow (by simp) (fun k hk => by cases hk; exact Nat.le_refl _))
    clear hown hgrow hnil
    go_wp2_with fail
    go_ret
    have ho : w1.ownsRow w.heap.size 90 8 v' l.length ys := by
      have := HO.out
      rw [Nat.zero_add, List.nil_append] at this
      rw [HNN.out]
      exact this
    exact ⟨_, ys, rfl, ho, row_new bk_moves HB.out HP.out ho HYC.out HL0.out, HB.out, fun _ => ⟨b, off, cap, by rw [HNN.out], HBL.out, HP.out, HYC.out⟩⟩
set_option maxRecDepth 100000 in
set_option maxHeartbeats 2000000 in
/-- slices.Clone: a new row with the same, or nil -/
theorem cloneFns_any {l : List Fn} {v : Value} {w : World} (hP : Funcs w v l) (hn : l.length * 56 ≤ 140737488355328) :
    Calls Try.prog 144 #[v] w (NewRow 78 4 FnAt l v w) := by
  have HN := Lib.hid hn
  clear hn
  have q22 : ∀ (W : World) (a : Option Addr) (n c n' c' : Nat), (binOp .eql 22 (.slice a n c) (.slice none n' c')).run Try.prog W = .ok (.bool a.isNone) W := fun W a n c n' c' => Lib.run_eql_slice_nil W _ _ a n c n' c' Try.underlying22
  have O0 := fun W : World => Lib.hid (show (W.alloc (.cells #[] 78)).ownsRow W.heap.size 78 4 (.slice (some ⟨W.heap.size, 0, none⟩) 0 0) 0 [] from ⟨rfl, .inr ⟨W.heap.size, 0, #[], rfl, Nat.le_refl _, heap_alloc_new _ _, Nat.le_refl _, by unfold maxLen; omega, rfl, rfl⟩⟩)
  rcases hP with ⟨rfl, rfl | ⟨a, cap, rfl⟩⟩ | ⟨h0, b, off, cap, rfl, hb, hp⟩
  · go_enter Try.func144, Try.ntmps144
    go_wp2_with fail
    go_ret
    exact ⟨_, [], rfl, ⟨rfl, .inl ⟨rfl, rfl⟩⟩, .inl ⟨rfl, .inl rfl⟩, Below.refl _ _, fun h => absurd h (by simp)⟩
  · obtain ⟨i0, hi, hz0, hz1, hz2⟩ := info_parts fn_info
    have HII := Lib.hid (And.intro hi (And.intro hz0 (And.intro hz1 hz2)))
    have H0 := O0 w
    clear hi hz0 hz1 hz2 O0
    go_enter Try.func144, Try.ntmps144
    go_wp2_with fail
    go_ret
    exact ⟨_, [], rfl, H0.out, .inl ⟨rfl, .inr ⟨_, _, rfl⟩⟩, balloc (Below.refl _ _) _, fun h => absurd h (by simp)⟩
  · obtain ⟨i0, hi, hz0, hz1, hz2⟩ := info_parts fn_info
    have HII := Lib.hid (And.intro hi (And.intro hz0 (And.intro hz1 hz2)))
    obtain ⟨ys, hyl, hyc, hy1⟩ := cells_of fn_cells (by decide) hp
    have HYL := Lib.hid hyl
    have HYC := Lib.hid hyc
    have HY1 := Lib.hid hy1
    have HP := Lib.hid hp
    have HL0 := Lib.hid h0
    have HBL := Lib.hid hb
    have HNE := Lib.hid (show ∀ j u, ys[j]? = some u → (w.alloc (.cells #[] 78)).cell? ((⟨b, off, none⟩ : Addr).add j) = some u from fun j u hj => by
      rw [int_add]
      have hj2 : j < l.length * 4 := by have := (List.getElem?_eq_some_iff.1 hj).1; omega
      rw [cellNext hb (balloc (Below.refl _ _) _), ← hyc j hj2]
      exact hj)
    obtain ⟨n, hn⟩ : ∃ n, l.length = n := ⟨_, rfl⟩
    rw [hn] at HYL
    rw [hn]
    have HNN := Lib.hid hn
    have H0 := O0 w
    have HM63 := Lib.hid (show 0 + n ≤ maxLen by unfold maxLen; have := HN.out; omega)
    have HM := Lib.hid (show (0 + n) * 56 ≤ 140737488355328 by have := HN.out; omega)
    clear hn hp h0 hb hi hz0 hz1 hz2 O0 hyl hyc hy1
    go_enter Try.func144, Try.ntmps144
    go_wp2_with (at_builtin; go_loud (refine wpList_append_own _ rfl _ _ 22 rfl w.heap.size 78 i0 _ 4 56 Try.underlying22 HII.out.1 HII.out.2.1 HII.out.2.2.1 HII.out.2.2.2 rfl (by decide) (.slice (some ⟨w.heap.size, 0, none⟩) 0 0) 0 [] rfl H0.out ⟨b, off, none⟩ n cap ys rfl HYL.out HNE.out HY1.out HM63.out HM.out (by simp) ?_; intro v' w1 hown hgrow hnil))
    have HO := Lib.hid hown
    have HB := Lib.hid ((balloc (Below.refl _ w) _).grown hgrow (by simp) (fun k hk => by cases hk; exact Nat.le_refl _))
    clear hown hgrow hnil
    go_wp2_with fail
    go_ret
    have ho : w1.ownsRow w.heap.size 78 4 v' l.length ys := by
      have := HO.out
      rw [Nat.zero_add, List.nil_append] at this
      rw [HNN.out]
      exact this
    exact ⟨_, ys, rfl, ho, row_new fn_moves HB.out HP.out ho HYC.out HL0.out, HB.out, fun _ => ⟨b, off, cap, by rw [HNN.out], HBL.out, HP.out, HYC.out⟩⟩
set_option maxRecDepth 100000 in
set_option maxHeartbeats 2000000 in
/-- slices.Clone: a new row with the same, or nil -/
theorem cloneGls_any {l : List Gl} {v : Value} {w : World} (hP : Globs w v l) (hn : l.length * 40 ≤ 140737488355328) :
    Calls Try.prog 145 #[v] w (NewRow 80 4 GlAt l v w) := by
  have HN := Lib.hid hn
  clear hn
  have q22 : ∀ (W : World) (a : Option Addr) (n c n' c' : Nat), (binOp .eql 23 (.slice a n c) (.slice none n' c')).run Try.prog W = .ok (.bool a.isNone) W := fun W a n c n' c' => Lib.run_eql_slice_nil W _ _ a n c n' c' Try.underlying23
  have O0 := fun W : World => Lib.hid (show (W.alloc (.cells #[] 80)).ownsRow W.heap.size 80 4 (.slice (some ⟨W.heap.size, 0, none⟩) 0 0) 0 [] from ⟨rfl, .inr ⟨W.heap.size, 0, #[], rfl, Nat.le_refl _, heap_alloc_new _ _, Nat.le_refl _, by unfold maxLen; omega, rfl, rfl⟩⟩)
  rcases hP with ⟨rfl, rfl | ⟨a, cap, rfl⟩⟩ | ⟨h0, b, off, cap, rfl, hb, hp⟩
  · go_enter Try.func145, Try.ntmps145
    go_wp2_with fail
    go_ret
    exact ⟨_, [], rfl, ⟨rfl, .inl ⟨rfl, rfl⟩⟩, .inl ⟨rfl, .inl rfl⟩, Below.refl _ _, fun h => absurd h (by simp)⟩
  · obtain ⟨i0, hi, hz0, hz1, hz2⟩ := info_parts gl_inf
    have HII := Lib.hid (And.intro hi (And.intro hz0 (And.intro hz1 hz2)))
    have H0 := O0 w
    clear hi hz0 hz1 hz2 O0
    go_enter Try.func145, Try.ntmps145
    go_wp2_with fail
    go_ret
    exact ⟨_, [], rfl, H0.out, .inl ⟨rfl, .inr ⟨_, _, rfl⟩⟩, balloc (Below.refl _ _) _, fun h => absurd h (by simp)⟩
  · obtain ⟨i0, hi, hz0, hz1, hz2⟩ := info_parts gl_inf
    have HII := Lib.hid (And.intro hi (And.intro hz0 (And.intro hz1 hz2)))
    obtain ⟨ys, hyl, hyc, hy1⟩ := cells_of gl_cells (by decide) hp
    have HYL := Lib.hid hyl
    have HYC := Lib.hid hyc
    have HY1 := Lib.hid hy1
    have HP := Lib.hid hp
    have HL0 := Lib.hid h0
    have HBL := Lib.hid hb
    have HNE := Lib.hid (show ∀ j u, ys[j]? = some u → (w.alloc (.cells #[] 80)).cell? ((⟨b, off, none⟩ : Addr).add j) = some u from fun j u hj => by
      rw [int_add]
      have hj2 : j < l.length * 4 := by have := (List.getElem?_eq_some_iff.1 hj).1; omega
      rw [cellNext hb (balloc (Below.refl _ _) _), ← hyc j hj2]
      exact hj)
    obtain ⟨n, hn⟩ : ∃ n, l.length = n := ⟨_, rfl⟩
    rw [hn] at HYL
    rw [hn]
    have HNN := Lib.hid hn
    have H0 := O0 w
    have HM63 := Lib.hid (show 0 + n ≤ maxLen by unfold maxLen; have := HN.out; omega)
    have HM := Lib.hid (show (0 + n) * 40 ≤ 140737488355328 by have := HN.out; omega)
    clear hn hp h0 hb hi hz0 hz1 hz2 O0 hyl hyc hy1
    go_enter Try.func145, Try.ntmps145
    go_wp2_with (at_builtin; go_loud (refine wpList_append_own _ rfl _ _ 23 rfl w.heap.size 80 i0 _ 4 40 Try.underlying23 HII.out.1 HII.out.2.1 HII.out.2.2.1 HII.out.2.2.2 rfl (by decide) (.slice (some ⟨w.heap.size, 0, none⟩) 0 0) 0 [] rfl H0.out ⟨b, off, none⟩ n cap ys rfl HYL.out HNE.out HY1.out HM63.out HM.out (by simp) ?_; intro v' w1 hown hgrow hnil))
    have HO := Lib.hid hown
    have HB := Lib.hid ((balloc (Below.refl _ w) _).grown hgrow (by simp) (fun k hk => by cases hk; exact Nat.le_refl _))
    clear hown hgrow hnil
    go_wp2_with fail
    go_ret
    have ho : w1.ownsRow w.heap.size 80 4 v' l.length ys := by
      have := HO.out
      rw [Nat.zero_add, List.nil_append] at this
      rw [HNN.out]
      exact this
    exact ⟨_, ys, rfl, ho, row_new gl_moves HB.out HP.out ho HYC.out HL0.out, HB.out, fun _ => ⟨b, off, cap, by rw [HNN.out], HBL.out, HP.out, HYC.out⟩⟩
end Go.Proofs.Ytcfniagmnkngfaa
