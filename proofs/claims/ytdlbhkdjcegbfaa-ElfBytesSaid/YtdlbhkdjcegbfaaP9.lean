/- bytesAt: the bytes of a row of places that have pages. -/
import Derived.Test.YtdlbhkdjcegbfaaP7
import Derived.Test.YtdlbhkdjcegbfaaRd
import Derived.Test.YtdlbhkdjcegbfaaSh
namespace Go.Proofs.Ytdlbhkdjcegbfaa
open Go.RowKit Go.Shelf

attribute [local go_sem] Oper.semAt_some

theorem builder_own {β : Type} {B₀ B b : Nat} (f : β → List Value) : OwnFrom B₀ (fun s W => Lib.IsBuilderF 137 5 B b (f s) W) := by
  intro s W W' row h hg hr
  have G : ∀ p, Lib.BuilderAtF 137 5 B b p (f s) W → Lib.BuilderAtF 137 5 B b p (f s) W' := by
    rintro p ⟨hB, v, hb, hw, hne⟩
    refine ⟨hB, v, (hg.block b (Array.getElem?_eq_some_iff.1 hb).1 (fun e => ?_)).trans hb, hw.kept hg ?_, hne⟩
    · obtain ⟨_, o, ho, hc⟩ := hr b e.symm
      rw [hb] at ho; cases ho; cases hc
    · cases hv : v.ownBlock with
      | none => exact .inl rfl
      | some g =>
        refine .inr (fun e => ?_)
        obtain ⟨_, o, ho, hc⟩ := hr g e.symm
        obtain ⟨c, fz, hg'⟩ := Lib.ownsRowF_kind hw g hv
        rw [hg'] at ho; cases ho; cases hc
  rcases h with h | h
  · exact .inl (G _ h)
  · exact .inr (G _ h)
theorem boxed_others {W W' : World} {B b : Nat} {t : TypeId} {v : Value} (h : Boxed W B t v) (hk : Lib.OthersKept 5 (some b) W W') (hb : B ≠ b) (ht : t ≠ 5) : Boxed W' B t v :=
  hk B _ h (fun e => hb (by cases e; rfl)) (fun c fz e => by cases e; exact ht rfl)
theorem keepS_others {W W' : World} {b : Nat} (hs : W.heap.size ≤ W'.heap.size) (hk : Lib.OthersKept 5 (some b) W W') (hb : ∀ cs f, W.heap[b]? ≠ some (.cells cs 167 f)) : KeepS W W' :=
  ⟨hs, fun k cs f hi => hk k _ hi (fun e => hb cs f (by cases e; exact hi)) (fun c fz e => by cases e)⟩
theorem keeps_others {W W' : World} {b B : Nat} (hs : W.heap.size ≤ W'.heap.size) (hk : Lib.OthersKept 5 (some b) W W') (hb : b < B) : KeepsFrom B W W' :=
  ⟨hs, fun k o hB hi ho => hk k o hi (fun e => by cases e; omega) (fun c fz e => by subst e; cases ho)⟩
theorem builder_type {W : World} {B b : Nat} {bs : List Value} (h : Lib.IsBuilderF 137 5 B b bs W) : ∃ cs, W.heap[b]? = some (.cells cs 137 (0, 0)) := by
  rcases h with ⟨_, v, hb, _⟩ | ⟨_, v, hb, _⟩ <;> exact ⟨_, hb⟩
theorem builder_below {W W' : World} {B b : Nat} {bs : List Value} (h : Lib.IsBuilderF 137 5 B b bs W) (hb : Below W.heap.size W W') : Lib.IsBuilderF 137 5 B b bs W' := by
  have hg : W.grownBy W' none := ⟨hb.os, hb.tape, hb.output, hb.size, fun k hk _ => hb.block k hk⟩
  exact builder_own (β := Unit) (B₀ := 0) (fun _ => bs) () W W' none h hg (fun r e => by cases e)
theorem builder_new (W : World) (B : Nat) (hB : B ≤ W.heap.size) : Lib.IsBuilderF 137 5 B W.heap.size [] (W.alloc (.cells #[.pointer none, .slice none 0 0] 137)) :=
  .inl ⟨hB, .slice none 0 0, heap_alloc_new _ _, World.ownsRowF_nil _ _ _ _, by simp [Value.ownBlock]⟩

/-- a row of places in a page that is there -/
def InPg (m : List M.Pg) (s : M.Str) : Prop := s.Ok ∧ ∃ (i : Nat) (h : i < m.length), M.low m s.pg = i ∧ M.there m s.pg = true ∧ m[i].d.size = 256

theorem rows_len (m : List M.Pg) (pre : List {s // InPg m s}) : (pre.flatMap (fun x => M.rowBytes m x.1)).length ≤ 256 * pre.length := by
  induction pre with
  | nil => simp
  | cons x pre ih =>
    rw [List.flatMap_cons, List.length_append, List.length_cons]
    have : (M.rowBytes m x.1).length ≤ 256 := by
      unfold M.rowBytes
      rw [List.length_take]
      have h1 := x.2.1.f0
      have h2 := x.2.1.fn
      omega
    omega
theorem row_extract {m : List M.Pg} {s : M.Str} {i : Nat} (hi : i < m.length) (hl : M.low m s.pg = i) (ho : s.Ok) (hs : m[i].d.size = 256) :
    Lib.strCells (m[i].d.extract s.f.toNat (s.f + s.n).toNat) = Lib.byteCells (M.rowBytes m s) := by
  rw [Lib.strCells_eq]
  congr 1
  have hd : M.dataAt m s.pg = m[i].d := by unfold M.dataAt; rw [hl, List.getElem?_eq_getElem hi]; rfl
  unfold M.rowBytes
  rw [hd]
  have h1 := ho.f0
  have h2 := ho.n1
  rw [ByteArray.data_extract, Array.toList_extract, List.extract_eq_take_drop]
  congr 1
  omega

set_option maxRecDepth 100000 in
set_option maxHeartbeats 4000000 in
theorem bytesAt_some (m : List M.Pg) (b off cap : Nat) (a k : Int) (w : World) (hl : m.length ≤ 1000000) (hu : m.Pairwise (fun x y => x.a < y.a)) (hP : PagesIn w b off m) (hm : 0 < m.length)
    (a0 : 0 ≤ a) (a1 : a ≤ 18446744073709551615) (k1 : k ≤ 100000) (hk : a + k ≤ 18446744073709551616) (hQ : ∀ s ∈ M.strs a k, InPg m s) :
    Calls Try.prog 65 #[.slice (some ⟨b, off, none⟩) m.length cap, .int .u64 a, .int .i64 k] w fun e W' => e = .returned (.string ⟨(M.bytesOf m a k.toNat).toArray⟩) ∧ Below w.heap.size w W' := by
  have HF := Lib.hid (fun (W : World) (h : Below w.heap.size w W) (x : Int) => find_any x (v := .slice (some ⟨b, off, none⟩) m.length cap) (.inr ⟨hm, b, off, cap, rfl, hP.next h⟩) hl hu)
  have HP := Lib.hid hP
  have HQ := Lib.hid hQ
  obtain ⟨nv, hnv⟩ : ∃ nv, m.length = nv := ⟨_, rfl⟩
  have HN := Lib.hid hnv
  rw [hnv] at HF hl hm ⊢
  clear hP hu hnv hQ
  refine (callsIn_wide (n := 3)).1 ?_
  refine callsIn_of_wp_marks Try.func65 rfl trivial ?_ rfl
  simp only [Try.ntmps65, List.size_toArray, List.length_cons, List.length_nil, Nat.reduceAdd, Nat.reduceSub, Array.replicate_succ, Array.replicate_zero, List.push_toArray, List.append_toArray, List.nil_append, List.cons_append]
  gi_wp2_with (fail)
  refine ⟨trivial, ?_⟩
  refine (stretches_in 2 _ _ _).mono ?_
  rintro e w1 ⟨rfl, rfl⟩
  gi_wp2_with (fail)
  have bV := (((Boxed.new w 28 (.slice (some ⟨b, off, none⟩) nv cap)).alloc (.cells #[.pointer none, .slice none 0 0] 137)).alloc (.cells #[.int .u64 a] 22)).alloc (.cells #[.int .i64 k] 3)
  have bB := ((builder_new (w.alloc (.cells #[.slice (some ⟨b, off, none⟩) nv cap] 28)) w.heap.size (by simp)).alloc (.cells #[.int .u64 a] 22)).alloc (.cells #[.int .i64 k] 3)
  have bA := (Boxed.new ((w.alloc (.cells #[.slice (some ⟨b, off, none⟩) nv cap] 28)).alloc (.cells #[.pointer none, .slice none 0 0] 137)) 22 (.int .u64 a)).alloc (.cells #[.int .i64 k] 3)
  have bK := Boxed.new (((w.alloc (.cells #[.slice (some ⟨b, off, none⟩) nv cap] 28)).alloc (.cells #[.pointer none, .slice none 0 0] 137)).alloc (.cells #[.int .u64 a] 22)) 3 (.int .i64 k)
  have hB0 := balloc (balloc (balloc (balloc (Below.refl _ w) (.cells #[.slice (some ⟨b, off, none⟩) nv cap] 28)) (.cells #[.pointer none, .slice none 0 0] 137)) (.cells #[.int .u64 a] 22)) (.cells #[.int .i64 k] 3)
  have hsz : ((((w.alloc (.cells #[.slice (some ⟨b, off, none⟩) nv cap] 28)).alloc (.cells #[.pointer none, .slice none 0 0] 137)).alloc (.cells #[.int .u64 a] 22)).alloc (.cells #[.int .i64 k] 3)).heap.size = w.heap.size + 4 := by simp
  simp only [World.size_alloc] at bB bA bK
  generalize ((((w.alloc (.cells #[.slice (some ⟨b, off, none⟩) nv cap] 28)).alloc (.cells #[.pointer none, .slice none 0 0] 137)).alloc (.cells #[.int .u64 a] 22)).alloc (.cells #[.int .i64 k] 3)) = W0 at *
  refine wpIn_rangeFunc_ownH (α := {s : M.Str // InPg m s}) rfl (by omega) (gf := 153) (lb := #[.pointer (some ⟨w.heap.size + 1 + 1, 0, none⟩), .pointer (some ⟨w.heap.size + 1 + 1 + 1, 0, none⟩)]) rfl trivial (enters_of Try.func153 (by kernel_rfl) rfl)
    (strs_stops 2 (by omega) (w.heap.size + 1 + 1) (w.heap.size + 1 + 1 + 1) a k (InPg m) HQ.out a0 a1 (by omega) hk W0 (by omega) (by omega) bA.cell bK.cell) KeepS.trans keepS_b (Below.refl _ _) (fun _ => rfl)
    (fun pre W => Boxed W w.heap.size 28 (.slice (some ⟨b, off, none⟩) nv cap) ∧ Lib.IsBuilderF 137 5 w.heap.size (w.heap.size + 1) (Lib.byteCells (pre.flatMap (fun x => M.rowBytes m x.1))) W ∧ Below w.heap.size w W)
    (fun _ _ _ => False)
    (OwnFrom.and (Own.from (boxed_own _ _ _) _) (OwnFrom.and (builder_own _) (ownFrom_below (Nat.le_refl _) (by omega))))
    (fun _ _ _ _ _ hs _ _ => hs)
    ⟨bV, bB, hB0⟩
    (fun x a' W => ∃ Bx, BoxedS W Bx x.1 ∧ a' = { tmps := #[.slice (some ⟨b, off, none⟩) nv cap, .int .u64 a, .int .i64 k, .pointer (some ⟨w.heap.size, 0, none⟩), undef, undef, .string ⟨#[]⟩, .pointer (some ⟨w.heap.size + 1, 0, none⟩), .pointer (some ⟨Bx, 0, none⟩), undef, undef, .int .u64 a, .int .i64 k, .func (.func 153) #[] #[.pointer (some ⟨w.heap.size + 1 + 1, 0, none⟩), .pointer (some ⟨w.heap.size + 1 + 1 + 1, 0, none⟩)], encS x.1, undef, undef, undef, undef, undef, undef, undef, undef, undef, undef, undef, undef, undef, undef, undef, undef, undef, undef, undef, undef, undef, undef], defers := [] })
    (fun x a' s X Y row hs hg hr => by obtain ⟨Bx, h1, h2⟩ := hs; exact ⟨Bx, boxedS_own Bx x.1 () X Y row h1 hg hr, h2⟩)
    ?assign ?body ?done ?stop
  case assign =>
    rintro l pre x W K ⟨b1, b2, hb⟩ hK
    have HK := Lib.hid hK
    clear hK
    obtain ⟨⟨pg, f, n⟩, hx⟩ := x
    simp only [encS]
    gi_wp2
    exact HK.out _ _ ((KeepsOthers.alloc _ _).from _) (KeepS.below (balloc (Below.refl _ _) _)) ⟨b1.alloc _, b2.alloc _, balloc hb _⟩ ⟨W.heap.size, BoxedS.new W ⟨pg, f, n⟩, rfl⟩
  case body =>
    rintro l pre x a' W hl0 hr ⟨b1, b2, hb⟩ ⟨Bx, bx, rfl⟩ hlen
    obtain ⟨ho, i, hi, hlo, hth, hds⟩ := x.2
    have HG := Lib.hid (HF.out W hb x.1.pg)
    rw [hlo, hth] at HG
    have HI := Lib.hid (show Boxed W w.heap.size 28 (.slice (some ⟨b, off, none⟩) nv cap) ∧ Lib.IsBuilderF 137 5 w.heap.size (w.heap.size + 1) (Lib.byteCells (pre.flatMap (fun x => M.rowBytes m x.1))) W ∧ Below w.heap.size w W from ⟨b1, b2, hb⟩)
    have HX := Lib.hid bx
    have HE := Lib.hid (row_extract hi hlo ho hds)
    have HLN := Lib.hid (Nat.lt_of_lt_of_le hlen M.strs_len)
    have hi' : i < nv := by rw [← HN.out]; exact hi
    have c1 := b1.cell
    obtain ⟨c3, -, -⟩ := bx.cells
    have HEN := Lib.hid (show encS x.1 = .agg #[.int .u64 x.1.pg, .int .i64 x.1.f, .int .i64 x.1.n] from rfl)
    rw [HEN.out]
    have f0 := ho.f0
    have n1 := ho.n1
    have fn := ho.fn
    obtain ⟨pg, hpg⟩ : ∃ pg, x.1.pg = pg := ⟨_, rfl⟩
    obtain ⟨xf, hxf⟩ : ∃ pg, x.1.f = pg := ⟨_, rfl⟩
    obtain ⟨xn, hxn⟩ : ∃ pg, x.1.n = pg := ⟨_, rfl⟩
    obtain ⟨d, hd⟩ : ∃ d, m[i].d = d := ⟨_, rfl⟩
    have HD := Lib.hid hd
    rw [hd] at hds HE
    rw [hpg] at HG c3 ⊢
    rw [hxf] at f0 fn HE ⊢
    rw [hxn] at n1 fn HE ⊢
    have HXF := Lib.hid hxf
    have HXN := Lib.hid hxn
    clear hb b1 b2 bx hr hlen hpg hxf hxn hd hlo hth ho
    gi_wp2_with (fail)
    refine ⟨trivial, ?_⟩
    refine (CallsIn.inRound l (callsIn_wide.2 HG.out)).mono ?_
    rintro e w1 ⟨rfl, hb1⟩
    have HB1 := Lib.hid hb1
    clear hb1 c1 c3
    gi_wp2_with (fail)
    have q1 := (boxed_below HI.out.1 HB1.out).cell
    have q2 := ((HP.out.next (bthen HI.out.2.2 HB1.out)).2 i hi).2.2
    rw [HD.out] at q2
    obtain ⟨-, q3, q4⟩ := BoxedS.cells (show BoxedS w1 Bx x.1 from (HB1.out.block Bx HX.out.lt).trans HX.out)
    rw [HXF.out] at q3
    rw [HXN.out] at q4
    have i0 : (0 : Int) ≤ (i : Int) := Int.natCast_nonneg _
    have i1 : (i : Int) < (nv : Int) := by omega
    have e1 : IntKind.i64.wrap (xf + xn) = xf + xn := by rw [IntKind.wrap_i64]; omega
    have e2 : (0 : Int) ≤ xf + xn := by omega
    have e3 : xf ≤ xf + xn := by omega
    have e4 : (xf + xn).toNat ≤ d.size := by omega
    have e5 : xf.toNat ≤ (xf + xn).toNat := by omega
    have e6 : xf + xn ≤ (d.size : Int) := by omega
    refine round_held (S := fun W' => W'.cell? ⟨w.heap.size, 0, none⟩ = some (.slice (some ⟨b, off, none⟩) nv cap) ∧ W'.cell? ⟨b, off + i * 3 + 2, none⟩ = some (.string d) ∧ W'.cell? ⟨Bx, 1, none⟩ = some (.int .i64 xf) ∧ W'.cell? ⟨Bx, 2, none⟩ = some (.int .i64 xn)) (by kernel_rfl) (by simp) ⟨q1, q2, q3, q4⟩ (fun hHeld => ?_)
    refine wpAnyH_take (i := 0) (v := ?_) rfl (by kernel_rfl) (by kernel_rfl) (by kernel_rfl) (fun _ _ _ h => nomatch h.1) (Or.inl ⟨by rfl, ?_⟩) (by assumption) ?_
    rotate_left
    · intro w hSw; (try dsimp only at hSw); obtain ⟨s1, s2, s3, s4⟩ := hSw; go_simp; try (with_reducible rfl)
    (try simp only [Act.put])
    refine wpAnyH_take (i := 1) (v := ?_) rfl (by kernel_rfl) (by kernel_rfl) (by kernel_rfl) (fun _ _ _ h => nomatch h.1) (Or.inl ⟨by rfl, ?_⟩) (by assumption) ?_
    rotate_left
    · intro w hSw; (try dsimp only at hSw); obtain ⟨s1, s2, s3, s4⟩ := hSw; go_simp; try (with_reducible rfl)
    (try simp only [Act.put])
    refine wpAnyH_take (i := 2) (v := ?_) rfl (by kernel_rfl) (by kernel_rfl) (by kernel_rfl) (fun _ _ _ h => nomatch h.1) (Or.inl ⟨by rfl, ?_⟩) (by assumption) ?_
    rotate_left
    · intro w hSw; (try dsimp only at hSw); obtain ⟨s1, s2, s3, s4⟩ := hSw; go_simp; try (with_reducible rfl)
    (try simp only [Act.put])
    refine wpAnyH_take (i := 3) (v := ?_) rfl (by kernel_rfl) (by kernel_rfl) (by kernel_rfl) (fun _ _ _ h => nomatch h.1) (Or.inl ⟨by rfl, ?_⟩) (by assumption) ?_
    rotate_left
    · intro w hSw; (try dsimp only at hSw); obtain ⟨s1, s2, s3, s4⟩ := hSw; go_simp; try (with_reducible rfl)
    (try simp only [Act.put])
    refine wpAnyH_take (i := 4) (v := ?_) rfl (by kernel_rfl) (by kernel_rfl) (by kernel_rfl) (fun _ _ _ h => nomatch h.1) (Or.inl ⟨by rfl, ?_⟩) (by assumption) ?_
    rotate_left
    · intro w hSw; (try dsimp only at hSw); obtain ⟨s1, s2, s3, s4⟩ := hSw; go_simp; try (with_reducible rfl)
    (try simp only [Act.put])
    refine wpAnyH_take (i := 5) (v := ?_) rfl (by kernel_rfl) (by kernel_rfl) (by kernel_rfl) (fun _ _ _ h => nomatch h.1) (Or.inl ⟨by rfl, ?_⟩) (by assumption) ?_
    rotate_left
    · intro w hSw; (try dsimp only at hSw); obtain ⟨s1, s2, s3, s4⟩ := hSw; go_simp; try (with_reducible rfl)
    (try simp only [Act.put])
    refine wpAnyH_take (i := 6) (v := ?_) rfl (by kernel_rfl) (by kernel_rfl) (by kernel_rfl) (fun _ _ _ h => nomatch h.1) (Or.inl ⟨by rfl, ?_⟩) (by assumption) ?_
    rotate_left
    · intro w hSw; (try dsimp only at hSw); obtain ⟨s1, s2, s3, s4⟩ := hSw; go_simp; try (with_reducible rfl)
    (try simp only [Act.put])
    refine wpAnyH_take (i := 7) (v := ?_) rfl (by kernel_rfl) (by kernel_rfl) (by kernel_rfl) (fun _ _ _ h => nomatch h.1) (Or.inl ⟨by rfl, ?_⟩) (by assumption) ?_
    rotate_left
    · intro w hSw; (try dsimp only at hSw); obtain ⟨s1, s2, s3, s4⟩ := hSw; go_simp; try (with_reducible rfl)
    (try simp only [Act.put])
    refine wpAnyH_take (i := 8) (v := ?_) rfl (by kernel_rfl) (by kernel_rfl) (by kernel_rfl) (fun _ _ _ h => nomatch h.1) (Or.inl ⟨by rfl, ?_⟩) (by assumption) ?_
    rotate_left
    · intro w hSw; (try dsimp only at hSw); obtain ⟨s1, s2, s3, s4⟩ := hSw; go_simp; try (with_reducible rfl)
    (try simp only [Act.put])
    refine wpAnyH_take (i := 9) (v := ?_) rfl (by kernel_rfl) (by kernel_rfl) (by kernel_rfl) (fun _ _ _ h => nomatch h.1) (Or.inl ⟨by rfl, ?_⟩) (by assumption) ?_
    rotate_left
    · intro w hSw; (try dsimp only at hSw); obtain ⟨s1, s2, s3, s4⟩ := hSw; go_simp; try (with_reducible rfl)
    (try simp only [Act.put])
    refine wpAnyH_take (i := 10) (v := ?_) rfl (by kernel_rfl) (by kernel_rfl) (by kernel_rfl) (fun _ _ _ h => nomatch h.1) (Or.inl ⟨by rfl, ?_⟩) (by assumption) ?_
    rotate_left
    · intro w hSw; (try dsimp only at hSw); obtain ⟨s1, s2, s3, s4⟩ := hSw; go_simp; try (with_reducible rfl)
    (try simp only [Act.put])
    refine wpAnyH_take (i := 11) (v := ?_) rfl (by kernel_rfl) (by kernel_rfl) (by kernel_rfl) (fun _ _ _ h => nomatch h.1) (Or.inl ⟨by rfl, ?_⟩) (by assumption) ?_
    rotate_left
    · intro w hSw; (try dsimp only at hSw); obtain ⟨s1, s2, s3, s4⟩ := hSw; go_simp; try (with_reducible rfl)
    (try simp only [Act.put])
    refine wpAnyH_take (i := 12) (v := ?_) rfl (by kernel_rfl) (by kernel_rfl) (by kernel_rfl) (fun _ _ _ h => nomatch h.1) (Or.inl ⟨by rfl, ?_⟩) (by assumption) ?_
    rotate_left
    · intro w hSw; (try dsimp only at hSw); obtain ⟨s1, s2, s3, s4⟩ := hSw; go_simp; try (with_reducible rfl)
    (try simp only [Act.put])
    refine wpAnyH_ready (rs := [13]) (by kernel_rfl) (by simp) ?_
    refine AllReadyH.cons rfl (fun K hK => ?_) AllReadyH.nil
    go_simp
    refine (write_any w.heap.size (w.heap.size + 1) (Lib.byteCells (pre.flatMap (fun x => M.rowBytes m x.1))) (d.extract xf.toNat (xf + xn).toNat) w1.drew ?_ ?_ ?_).mono ?_
    · exact builder_below (builder_below HI.out.2.1 HB1.out) ((Below.refl _ _).drew)
    · have h1 := rows_len m pre
      have h2 := HLN.out
      rw [Lib.byteCells_length]
      have h3 : (d.extract xf.toNat (xf + xn).toNat).size ≤ 256 := by simp; omega
      omega
    · have h1 := HI.out.2.2.size
      have h2 := HB1.out.size
      simp; omega
    · rintro e w2 ⟨rfl, h2, hb2, hk2⟩
      show K _ _
      have hne : Bx ≠ w.heap.size + 1 := by
        intro e
        obtain ⟨cs, hcs⟩ := builder_type HI.out.2.1
        have h1 := HX.out
        unfold BoxedS at h1
        rw [e, hcs] at h1
        cases h1
      have d1 : Boxed w1.drew w.heap.size 28 (.slice (some ⟨b, off, none⟩) nv cap) := show Boxed w1 w.heap.size _ _ from boxed_below HI.out.1 HB1.out
      have d2 : BoxedS w1.drew Bx x.1 := (HB1.out.block Bx HX.out.lt).trans HX.out
      have d3 := boxed_others d1 hk2 (by omega) (by decide)
      have d4 : BoxedS w2 Bx x.1 := hk2 Bx _ d2 (fun e => hne (by cases e; rfl)) (fun c fz e => by cases e)
      have dz : Below W.heap.size W w1.drew := HB1.out.trans ((Below.refl _ _).drew)
      refine hK.out _ _ ?_ (fun _ => ?_)
      · obtain ⟨-, r3, r4⟩ := d4.cells
        rw [HXF.out] at r3
        rw [HXN.out] at r4
        exact ⟨d3.cell, (hb2.cell (p := ⟨b, off + i * 3 + 2, none⟩) HP.out.1).trans q2, r3, r4⟩
      clear hK K
      refine wpAnyH_done (by kernel_rfl) ?_ _
      refine ⟨rfl, ?_⟩
      have hsz2 : W.heap.size ≤ w2.heap.size := Nat.le_trans dz.size hb2.size
      refine ⟨(keeps_below _ dz).trans (keeps_others hb2.size hk2 (by omega)), (KeepS.below dz).trans (keepS_others hb2.size hk2 (fun cs f e => ?_)), d3, ?_, ?_⟩
      · obtain ⟨cs', hcs⟩ := builder_type (builder_below HI.out.2.1 dz)
        rw [hcs] at e; cases e
      · rw [HE.out] at h2
        simpa [Lib.byteCells] using h2
      · exact (bthen HI.out.2.2 dz).trans hb2
  case done =>
    rintro D ys W hD hys ⟨b1, b2, hb⟩ hK
    have HS := Lib.hid (string_any w.heap.size (w.heap.size + 1) _ W b2 (hb.size))
    have HK := Lib.hid hK
    have HB := Lib.hid hb
    have HY := Lib.hid (show ys.flatMap (fun x => M.rowBytes m x.1) = M.bytesOf m a k.toNat by
      have h := M.rows_bytes m (n := k) a0 (fun s hs => by
        obtain ⟨_, i, hi, hlo, _, hds⟩ := HQ.out s hs
        unfold M.dataAt
        rw [hlo, List.getElem?_eq_getElem hi]
        exact hds)
      rw [← h, ← hys, List.flatMap_map])
    rw [HY.out] at HS
    clear b1 b2 hb hK hys
    gi_wp2_with (fail)
    refine ⟨trivial, ?_⟩
    refine (callsIn_wide.2 HS.out).mono ?_
    rintro e w3 ⟨rfl, h3, hb3, hk3⟩
    have HK3 := Lib.hid (hk3 D _ HK.out (fun e => by cases e; omega) (fun c fz e => by cases e))
    have HB3 := Lib.hid (HB.out.trans hb3)
    clear h3 hb3 hk3
    gi_wp2_with (fail)
    refine ⟨by simp, .inl ⟨_, _, rfl, run_takeDeferred HK3.out, ?_⟩⟩
    exact ⟨_, results_tmp rfl _ _ _, rfl, HB3.out.trans (belowK_b (w := w) (Nat.le_refl _) _ D _ _ (by omega) HK3.out rfl rfl)⟩
  case stop =>
    rintro D c pre W _ _ h _
    exact h.elim
end Go.Proofs.Ytdlbhkdjcegbfaa
