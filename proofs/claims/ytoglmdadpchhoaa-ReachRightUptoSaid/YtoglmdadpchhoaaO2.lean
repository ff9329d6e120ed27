/- Package own: copies of instructions, blocks, functions. -/
import Derived.Test.YtoglmdadpchhoaaO1
import Derived.Test.YtoglmdadpchhoaaRQ
import Derived.Test.YtoglmdadpchhoaaRQ
namespace Go.Proofs.Ytoglmdadpchhoaa
open Go.RowKit

theorem made_fresh {β : Type} {sz : Nat} {T : TypeId} {V : World → List Value → β → Prop} {P : World → Nat → Nat → β → Prop} {base : Nat} {l : List β} {v : Value} {W : World}
    (hP : ∀ (U : World) (b o : Nat) (cs : List Value) (x : β), cs.length = sz → V U cs x → (∀ j, j < sz → U.cell? ⟨b, o + j, none⟩ = cs[j]?) → P U b o x) (h : OwnAt sz T V base W.heap.size l v W) : Fresh base W (fun U => RowOf sz P U v l) := fun _ hU => h.rowOf hP hU

set_option maxRecDepth 100000 in
set_option maxHeartbeats 8000000 in
theorem ownInst_any (x : In) (cs : List Value) (w : World) (h : InC w cs x) (h8 : x.l.length * 8 ≤ 140737488355328) :
    Calls Try.prog 108 #[.agg cs.toArray] w (Made InC x w) := by
  obtain ⟨A, c, rfl, hi⟩ := h
  obtain ⟨o, a, b, k, s, l⟩ := x
  dsimp only at *
  obtain ⟨n, hn⟩ : ∃ n, l.length = n := ⟨_, rfl⟩
  have HCL := Lib.hid (fun (U : World) (hU : Below w.heap.size w U) => iclone_any (hi.next hU) h8)
  rw [hn] at HCL
  have HNQ := Lib.hid hn
  rw [hn]
  clear hi h8 hn
  obtain ⟨w0, hw0⟩ : ∃ U, (w.alloc (.cells #[.int .i64 o, .int .i64 a, .int .i64 b, .int .u64 k, .string s, .slice A n c] 62)).alloc (.cells #[.int .i64 0, .int .i64 0, .int .i64 0, .int .u64 0, .string ⟨#[]⟩, .slice none 0 0] 62) = U := ⟨_, rfl⟩
  obtain ⟨hb0, hz0, hz1, hsz⟩ := two_new w 62 #[.int .i64 o, .int .i64 a, .int .i64 b, .int .u64 k, .string s, .slice A n c] #[.int .i64 0, .int .i64 0, .int .i64 0, .int .u64 0, .string ⟨#[]⟩, .slice none 0 0]
  rw [hw0] at hb0 hz0 hz1 hsz
  have HA0 := Lib.hid hz0
  have HZ0 := Lib.hid hz1
  have HB0 := Lib.hid hb0
  have HS0 := Lib.hid (show w.heap.size + 2 ≤ w0.heap.size by omega)
  have c0_0 : w0.cell? ⟨w.heap.size, 0, none⟩ = some (.int .i64 o) := hz0.cell 0
  have c0_1 : w0.cell? ⟨w.heap.size, 1, none⟩ = some (.int .i64 a) := hz0.cell 1
  have c0_2 : w0.cell? ⟨w.heap.size, 2, none⟩ = some (.int .i64 b) := hz0.cell 2
  have c0_3 : w0.cell? ⟨w.heap.size, 3, none⟩ = some (.int .u64 k) := hz0.cell 3
  have c0_4 : w0.cell? ⟨w.heap.size, 4, none⟩ = some (.string s) := hz0.cell 4
  have c0_5 : w0.cell? ⟨w.heap.size, 5, none⟩ = some (.slice A n c) := hz0.cell 5
  clear hz0 hz1 hb0 hsz
  go_enter Try.func108, Try.ntmps108
  go_upto_region 1 with fail
  try rw [hw0]
  clear hw0
  go_wp2_with fail
  refine (HCL.out w0 HB0.out).mono ?_
  rintro r u1 ⟨v1, rfl, ho1, hb1⟩
  obtain ⟨A1, c1, hv1⟩ := ho1.ints.slice
  rw [HNQ.out] at hv1
  subst hv1
  have hf1 := ho1.fresh
  clear ho1
  have HA1' := Lib.hid (HA0.out.next hb1)
  have HZ1' := Lib.hid (HZ0.out.next hb1)
  have HB1' := Lib.hid (bthen HB0.out hb1)
  have HF0' := Lib.hid ((hf1).thin HS0.out)
  have HS1' := Lib.hid (show w.heap.size + 2 ≤ u1.heap.size from Nat.le_trans HS0.out hb1.size)
  have d1_0 : u1.cell? ⟨w.heap.size, 0, none⟩ = some (.int .i64 o) := HA1'.out.cell 0
  have d1_1 : u1.cell? ⟨w.heap.size, 1, none⟩ = some (.int .i64 a) := HA1'.out.cell 1
  have d1_2 : u1.cell? ⟨w.heap.size, 2, none⟩ = some (.int .i64 b) := HA1'.out.cell 2
  have d1_3 : u1.cell? ⟨w.heap.size, 3, none⟩ = some (.int .u64 k) := HA1'.out.cell 3
  have d1_4 : u1.cell? ⟨w.heap.size, 4, none⟩ = some (.string s) := HA1'.out.cell 4
  have d1_5 : u1.cell? ⟨w.heap.size, 5, none⟩ = some (.slice A n c) := HA1'.out.cell 5
  have f1 : u1.frozen? ⟨w.heap.size, 5, none⟩ = false := HA1'.out.free 5
  clear c0_0 c0_1 c0_2 c0_3 c0_4 c0_5 hb1 hf1
  obtain ⟨w1, hw1⟩ : ∃ U, u1.setCell ⟨w.heap.size, 5, none⟩ (.slice A1 n c1) = U := ⟨_, rfl⟩
  have HA1 := Lib.hid (HA1'.out.put 5 (.slice A1 n c1))
  have HZ1 := Lib.hid (HZ1'.out.set ⟨w.heap.size, 5, none⟩ (.slice A1 n c1) (by simp))
  have HB1 := Lib.hid (below_setc (u := .slice A1 n c1) (a := ⟨w.heap.size, 5, none⟩) HB1'.out (by simp))
  have HS1 := Lib.hid (show w.heap.size + 2 ≤ (u1.setCell ⟨w.heap.size, 5, none⟩ (.slice A1 n c1)).heap.size by rw [World.size_setCell]; exact HS1'.out)
  have HF0_1 := Lib.hid (HF0'.out.set ⟨w.heap.size, 5, none⟩ (.slice A1 n c1) (by simp))
  rw [hw1] at HA1 HZ1 HB1 HS1 HF0_1
  have c1_0 : w1.cell? ⟨w.heap.size, 0, none⟩ = some (.int .i64 o) := HA1.out.cell 0
  have c1_1 : w1.cell? ⟨w.heap.size, 1, none⟩ = some (.int .i64 a) := HA1.out.cell 1
  have c1_2 : w1.cell? ⟨w.heap.size, 2, none⟩ = some (.int .i64 b) := HA1.out.cell 2
  have c1_3 : w1.cell? ⟨w.heap.size, 3, none⟩ = some (.int .u64 k) := HA1.out.cell 3
  have c1_4 : w1.cell? ⟨w.heap.size, 4, none⟩ = some (.string s) := HA1.out.cell 4
  have c1_5 : w1.cell? ⟨w.heap.size, 5, none⟩ = some (.slice A1 n c1) := HA1.out.cell 5
  go_wp2_with (refine store_whole (T := 62) rfl _ _ rfl (w.heap.size + 1) #[.int .i64 o, .int .i64 a, .int .i64 b, .int .u64 k, .string s, .slice A1 n c1] #[.int .i64 0, .int .i64 0, .int .i64 0, .int .u64 0, .string ⟨#[]⟩, .slice none 0 0] rfl rfl HZ1.out size_In rfl (by simp [Value.oneCell']) ?_)
  refine bodyPost_ret (results_cell_row Try.results108 _ _ (w.heap.size + 1) 62 #[.int .i64 o, .int .i64 a, .int .i64 b, .int .u64 k, .string s, .slice A1 n c1] (0, 0) _ rfl HZ1.out.rowed Try.underlying62 rfl size_In) rfl ?_
  refine ⟨[.int .i64 o, .int .i64 a, .int .i64 b, .int .u64 k, .string s, .slice A1 n c1], rfl, below_setr HB1.out (Nat.le_succ _), fun U hU => ?_⟩
  have g0 := ((HF0_1.out.row (w.heap.size + 1) #[.int .i64 o, .int .i64 a, .int .i64 b, .int .u64 k, .string s, .slice A1 n c1] (by omega)).thin (show w.heap.size ≤ w.heap.size + 2 by omega)) U hU
  rw [← HNQ.out] at g0 ⊢
  exact ⟨A1, c1, rfl, g0⟩
set_option maxRecDepth 100000 in
set_option maxHeartbeats 8000000 in
theorem ownBlock_any (x : Bk) (cs : List Value) (w : World) (h : BkC w cs x) (hk : BkK 1048576 x) :
    Calls Try.prog 94 #[.agg cs.toArray] w (Made BkC x w) := by
  obtain ⟨A, c, B, d, D, f, rfl, hi, hl, hm⟩ := h
  obtain ⟨p, is, ⟨k, a, t, l, e, ms⟩⟩ := x
  obtain ⟨h1, h2, h3, h4⟩ := hk
  dsimp only at *
  have HC1 := Lib.hid (fun (U : World) (hU : Below w.heap.size w U) => eachIn_any (fun x => x) 108 #[] #[] is A is.length c U rfl (by omega) (hi.next hU) (fun _ _ => by kernel_rfl) (fun x hx cs V hV hc => ownInst_any x cs V hc (by have := h4 x hx; unfold InK at this; omega)))
  have HC2 := Lib.hid (fun (U : World) (hU : Below w.heap.size w U) => iclone_any (hl.next hU) (by omega))
  have HC3 := Lib.hid (fun (U : World) (hU : Below w.heap.size w U) => iclone_any (hm.next hU) (by omega))
  obtain ⟨n, hn1⟩ : ∃ n, is.length = n := ⟨_, rfl⟩
  obtain ⟨m, hn2⟩ : ∃ n, l.length = n := ⟨_, rfl⟩
  obtain ⟨q, hn3⟩ : ∃ n, ms.length = n := ⟨_, rfl⟩
  rw [hn1] at HC1
  rw [hn2] at HC2
  rw [hn3] at HC3
  have HN1 := Lib.hid hn1
  have HN2 := Lib.hid hn2
  have HN3 := Lib.hid hn3
  rw [hn1, hn2, hn3]
  clear hi hl hm h1 h2 h3 h4 hn1 hn2 hn3
  obtain ⟨w0, hw0⟩ : ∃ U, (w.alloc (.cells #[.int .i64 p, .slice A n c, .int .i64 k, .int .i64 a, .int .i64 t, .slice B m d, .int .i64 e, .slice D q f] 67)).alloc (.cells #[.int .i64 0, .slice none 0 0, .int .i64 0, .int .i64 0, .int .i64 0, .slice none 0 0, .int .i64 0, .slice none 0 0] 67) = U := ⟨_, rfl⟩
  obtain ⟨hb0, hz0, hz1, hsz⟩ := two_new w 67 #[.int .i64 p, .slice A n c, .int .i64 k, .int .i64 a, .int .i64 t, .slice B m d, .int .i64 e, .slice D q f] #[.int .i64 0, .slice none 0 0, .int .i64 0, .int .i64 0, .int .i64 0, .slice none 0 0, .int .i64 0, .slice none 0 0]
  rw [hw0] at hb0 hz0 hz1 hsz
  have HA0 := Lib.hid hz0
  have HZ0 := Lib.hid hz1
  have HB0 := Lib.hid hb0
  have HS0 := Lib.hid (show w.heap.size + 2 ≤ w0.heap.size by omega)
  have c0_0 : w0.cell? ⟨w.heap.size, 0, none⟩ = some (.int .i64 p) := hz0.cell 0
  have c0_1 : w0.cell? ⟨w.heap.size, 1, none⟩ = some (.slice A n c) := hz0.cell 1
  have c0_2 : w0.cell? ⟨w.heap.size, 2, none⟩ = some (.int .i64 k) := hz0.cell 2
  have c0_3 : w0.cell? ⟨w.heap.size, 3, none⟩ = some (.int .i64 a) := hz0.cell 3
  have c0_4 : w0.cell? ⟨w.heap.size, 4, none⟩ = some (.int .i64 t) := hz0.cell 4
  have c0_5 : w0.cell? ⟨w.heap.size, 5, none⟩ = some (.slice B m d) := hz0.cell 5
  have c0_6 : w0.cell? ⟨w.heap.size, 6, none⟩ = some (.int .i64 e) := hz0.cell 6
  have c0_7 : w0.cell? ⟨w.heap.size, 7, none⟩ = some (.slice D q f) := hz0.cell 7
  clear hz0 hz1 hb0 hsz
  go_enter Try.func94, Try.ntmps94
  go_upto_region 1 with fail
  try rw [hw0]
  clear hw0
  go_wp2_with fail
  refine (HC1.out w0 HB0.out).mono ?_
  rintro r u1 ⟨A1, c1, rfl, hb1, ho1⟩
  rw [List.length_map, HN1.out]
  rw [List.length_map, HN1.out] at ho1
  have hf1 := made_fresh InC.lay ho1
  clear ho1
  have HA1' := Lib.hid (HA0.out.next hb1)
  have HZ1' := Lib.hid (HZ0.out.next hb1)
  have HB1' := Lib.hid (bthen HB0.out hb1)
  have HF0' := Lib.hid ((hf1).thin HS0.out)
  have HS1' := Lib.hid (show w.heap.size + 2 ≤ u1.heap.size from Nat.le_trans HS0.out hb1.size)
  have d1_0 : u1.cell? ⟨w.heap.size, 0, none⟩ = some (.int .i64 p) := HA1'.out.cell 0
  have d1_1 : u1.cell? ⟨w.heap.size, 1, none⟩ = some (.slice A n c) := HA1'.out.cell 1
  have d1_2 : u1.cell? ⟨w.heap.size, 2, none⟩ = some (.int .i64 k) := HA1'.out.cell 2
  have d1_3 : u1.cell? ⟨w.heap.size, 3, none⟩ = some (.int .i64 a) := HA1'.out.cell 3
  have d1_4 : u1.cell? ⟨w.heap.size, 4, none⟩ = some (.int .i64 t) := HA1'.out.cell 4
  have d1_5 : u1.cell? ⟨w.heap.size, 5, none⟩ = some (.slice B m d) := HA1'.out.cell 5
  have d1_6 : u1.cell? ⟨w.heap.size, 6, none⟩ = some (.int .i64 e) := HA1'.out.cell 6
  have d1_7 : u1.cell? ⟨w.heap.size, 7, none⟩ = some (.slice D q f) := HA1'.out.cell 7
  have f1 : u1.frozen? ⟨w.heap.size, 1, none⟩ = false := HA1'.out.free 1
  clear c0_0 c0_1 c0_2 c0_3 c0_4 c0_5 c0_6 c0_7 hb1 hf1
  obtain ⟨w1, hw1⟩ : ∃ U, u1.setCell ⟨w.heap.size, 1, none⟩ (.slice A1 n c1) = U := ⟨_, rfl⟩
  have HA1 := Lib.hid (HA1'.out.put 1 (.slice A1 n c1))
  have HZ1 := Lib.hid (HZ1'.out.set ⟨w.heap.size, 1, none⟩ (.slice A1 n c1) (by simp))
  have HB1 := Lib.hid (below_setc (u := .slice A1 n c1) (a := ⟨w.heap.size, 1, none⟩) HB1'.out (by simp))
  have HS1 := Lib.hid (show w.heap.size + 2 ≤ (u1.setCell ⟨w.heap.size, 1, none⟩ (.slice A1 n c1)).heap.size by rw [World.size_setCell]; exact HS1'.out)
  have HF0_1 := Lib.hid (HF0'.out.set ⟨w.heap.size, 1, none⟩ (.slice A1 n c1) (by simp))
  rw [hw1] at HA1 HZ1 HB1 HS1 HF0_1
  have c1_0 : w1.cell? ⟨w.heap.size, 0, none⟩ = some (.int .i64 p) := HA1.out.cell 0
  have c1_1 : w1.cell? ⟨w.heap.size, 1, none⟩ = some (.slice A1 n c1) := HA1.out.cell 1
  have c1_2 : w1.cell? ⟨w.heap.size, 2, none⟩ = some (.int .i64 k) := HA1.out.cell 2
  have c1_3 : w1.cell? ⟨w.heap.size, 3, none⟩ = some (.int .i64 a) := HA1.out.cell 3
  have c1_4 : w1.cell? ⟨w.heap.size, 4, none⟩ = some (.int .i64 t) := HA1.out.cell 4
  have c1_5 : w1.cell? ⟨w.heap.size, 5, none⟩ = some (.slice B m d) := HA1.out.cell 5
  have c1_6 : w1.cell? ⟨w.heap.size, 6, none⟩ = some (.int .i64 e) := HA1.out.cell 6
  have c1_7 : w1.cell? ⟨w.heap.size, 7, none⟩ = some (.slice D q f) := HA1.out.cell 7
  go_wp2_with fail
  clear hw1 d1_0 d1_1 d1_2 d1_3 d1_4 d1_5 d1_6 d1_7 f1
  refine (HC2.out w1 HB1.out).mono ?_
  rintro r u2 ⟨v2, rfl, ho2, hb2⟩
  obtain ⟨A2, c2, hv2⟩ := ho2.ints.slice
  rw [HN2.out] at hv2
  subst hv2
  have hf2 := ho2.fresh
  clear ho2
  have HA2' := Lib.hid (HA1.out.next hb2)
  have HZ2' := Lib.hid (HZ1.out.next hb2)
  have HB2' := Lib.hid (bthen HB1.out hb2)
  have HF1' := Lib.hid ((hf2).thin HS1.out)
  have HS2' := Lib.hid (show w.heap.size + 2 ≤ u2.heap.size from Nat.le_trans HS1.out hb2.size)
  have HF0_2' := Lib.hid (HF0_1.out.call hb2)
  have d2_0 : u2.cell? ⟨w.heap.size, 0, none⟩ = some (.int .i64 p) := HA2'.out.cell 0
  have d2_1 : u2.cell? ⟨w.heap.size, 1, none⟩ = some (.slice A1 n c1) := HA2'.out.cell 1
  have d2_2 : u2.cell? ⟨w.heap.size, 2, none⟩ = some (.int .i64 k) := HA2'.out.cell 2
  have d2_3 : u2.cell? ⟨w.heap.size, 3, none⟩ = some (.int .i64 a) := HA2'.out.cell 3
  have d2_4 : u2.cell? ⟨w.heap.size, 4, none⟩ = some (.int .i64 t) := HA2'.out.cell 4
  have d2_5 : u2.cell? ⟨w.heap.size, 5, none⟩ = some (.slice B m d) := HA2'.out.cell 5
  have d2_6 : u2.cell? ⟨w.heap.size, 6, none⟩ = some (.int .i64 e) := HA2'.out.cell 6
  have d2_7 : u2.cell? ⟨w.heap.size, 7, none⟩ = some (.slice D q f) := HA2'.out.cell 7
  have f2 : u2.frozen? ⟨w.heap.size, 5, none⟩ = false := HA2'.out.free 5
  clear c1_0 c1_1 c1_2 c1_3 c1_4 c1_5 c1_6 c1_7 hb2 hf2
  obtain ⟨w2, hw2⟩ : ∃ U, u2.setCell ⟨w.heap.size, 5, none⟩ (.slice A2 m c2) = U := ⟨_, rfl⟩
  have HA2 := Lib.hid (HA2'.out.put 5 (.slice A2 m c2))
  have HZ2 := Lib.hid (HZ2'.out.set ⟨w.heap.size, 5, none⟩ (.slice A2 m c2) (by simp))
  have HB2 := Lib.hid (below_setc (u := .slice A2 m c2) (a := ⟨w.heap.size, 5, none⟩) HB2'.out (by simp))
  have HS2 := Lib.hid (show w.heap.size + 2 ≤ (u2.setCell ⟨w.heap.size, 5, none⟩ (.slice A2 m c2)).heap.size by rw [World.size_setCell]; exact HS2'.out)
  have HF1_2 := Lib.hid (HF1'.out.set ⟨w.heap.size, 5, none⟩ (.slice A2 m c2) (by simp))
  have HF0_2 := Lib.hid (HF0_2'.out.set ⟨w.heap.size, 5, none⟩ (.slice A2 m c2) (by simp))
  rw [hw2] at HA2 HZ2 HB2 HS2 HF0_2 HF1_2
  have c2_0 : w2.cell? ⟨w.heap.size, 0, none⟩ = some (.int .i64 p) := HA2.out.cell 0
  have c2_1 : w2.cell? ⟨w.heap.size, 1, none⟩ = some (.slice A1 n c1) := HA2.out.cell 1
  have c2_2 : w2.cell? ⟨w.heap.size, 2, none⟩ = some (.int .i64 k) := HA2.out.cell 2
  have c2_3 : w2.cell? ⟨w.heap.size, 3, none⟩ = some (.int .i64 a) := HA2.out.cell 3
  have c2_4 : w2.cell? ⟨w.heap.size, 4, none⟩ = some (.int .i64 t) := HA2.out.cell 4
  have c2_5 : w2.cell? ⟨w.heap.size, 5, none⟩ = some (.slice A2 m c2) := HA2.out.cell 5
  have c2_6 : w2.cell? ⟨w.heap.size, 6, none⟩ = some (.int .i64 e) := HA2.out.cell 6
  have c2_7 : w2.cell? ⟨w.heap.size, 7, none⟩ = some (.slice D q f) := HA2.out.cell 7
  go_wp2_with fail
  clear hw2 d2_0 d2_1 d2_2 d2_3 d2_4 d2_5 d2_6 d2_7 f2
  refine (HC3.out w2 HB2.out).mono ?_
  rintro r u3 ⟨v3, rfl, ho3, hb3⟩
  obtain ⟨A3, c3, hv3⟩ := ho3.ints.slice
  rw [HN3.out] at hv3
  subst hv3
  have hf3 := ho3.fresh
  clear ho3
  have HA3' := Lib.hid (HA2.out.next hb3)
  have HZ3' := Lib.hid (HZ2.out.next hb3)
  have HB3' := Lib.hid (bthen HB2.out hb3)
  have HF2' := Lib.hid ((hf3).thin HS2.out)
  have HS3' := Lib.hid (show w.heap.size + 2 ≤ u3.heap.size from Nat.le_trans HS2.out hb3.size)
  have HF0_3' := Lib.hid (HF0_2.out.call hb3)
  have HF1_3' := Lib.hid (HF1_2.out.call hb3)
  have d3_0 : u3.cell? ⟨w.heap.size, 0, none⟩ = some (.int .i64 p) := HA3'.out.cell 0
  have d3_1 : u3.cell? ⟨w.heap.size, 1, none⟩ = some (.slice A1 n c1) := HA3'.out.cell 1
  have d3_2 : u3.cell? ⟨w.heap.size, 2, none⟩ = some (.int .i64 k) := HA3'.out.cell 2
  have d3_3 : u3.cell? ⟨w.heap.size, 3, none⟩ = some (.int .i64 a) := HA3'.out.cell 3
  have d3_4 : u3.cell? ⟨w.heap.size, 4, none⟩ = some (.int .i64 t) := HA3'.out.cell 4
  have d3_5 : u3.cell? ⟨w.heap.size, 5, none⟩ = some (.slice A2 m c2) := HA3'.out.cell 5
  have d3_6 : u3.cell? ⟨w.heap.size, 6, none⟩ = some (.int .i64 e) := HA3'.out.cell 6
  have d3_7 : u3.cell? ⟨w.heap.size, 7, none⟩ = some (.slice D q f) := HA3'.out.cell 7
  have f3 : u3.frozen? ⟨w.heap.size, 7, none⟩ = false := HA3'.out.free 7
  clear c2_0 c2_1 c2_2 c2_3 c2_4 c2_5 c2_6 c2_7 hb3 hf3
  obtain ⟨w3, hw3⟩ : ∃ U, u3.setCell ⟨w.heap.size, 7, none⟩ (.slice A3 q c3) = U := ⟨_, rfl⟩
  have HA3 := Lib.hid (HA3'.out.put 7 (.slice A3 q c3))
  have HZ3 := Lib.hid (HZ3'.out.set ⟨w.heap.size, 7, none⟩ (.slice A3 q c3) (by simp))
  have HB3 := Lib.hid (below_setc (u := .slice A3 q c3) (a := ⟨w.heap.size, 7, none⟩) HB3'.out (by simp))
  have HS3 := Lib.hid (show w.heap.size + 2 ≤ (u3.setCell ⟨w.heap.size, 7, none⟩ (.slice A3 q c3)).heap.size by rw [World.size_setCell]; exact HS3'.out)
  have HF2_3 := Lib.hid (HF2'.out.set ⟨w.heap.size, 7, none⟩ (.slice A3 q c3) (by simp))
  have HF0_3 := Lib.hid (HF0_3'.out.set ⟨w.heap.size, 7, none⟩ (.slice A3 q c3) (by simp))
  have HF1_3 := Lib.hid (HF1_3'.out.set ⟨w.heap.size, 7, none⟩ (.slice A3 q c3) (by simp))
  rw [hw3] at HA3 HZ3 HB3 HS3 HF0_3 HF1_3 HF2_3
  have c3_0 : w3.cell? ⟨w.heap.size, 0, none⟩ = some (.int .i64 p) := HA3.out.cell 0
  have c3_1 : w3.cell? ⟨w.heap.size, 1, none⟩ = some (.slice A1 n c1) := HA3.out.cell 1
  have c3_2 : w3.cell? ⟨w.heap.size, 2, none⟩ = some (.int .i64 k) := HA3.out.cell 2
  have c3_3 : w3.cell? ⟨w.heap.size, 3, none⟩ = some (.int .i64 a) := HA3.out.cell 3
  have c3_4 : w3.cell? ⟨w.heap.size, 4, none⟩ = some (.int .i64 t) := HA3.out.cell 4
  have c3_5 : w3.cell? ⟨w.heap.size, 5, none⟩ = some (.slice A2 m c2) := HA3.out.cell 5
  have c3_6 : w3.cell? ⟨w.heap.size, 6, none⟩ = some (.int .i64 e) := HA3.out.cell 6
  have c3_7 : w3.cell? ⟨w.heap.size, 7, none⟩ = some (.slice A3 q c3) := HA3.out.cell 7
  go_wp2_with (refine store_whole (T := 67) rfl _ _ rfl (w.heap.size + 1) #[.int .i64 p, .slice A1 n c1, .int .i64 k, .int .i64 a, .int .i64 t, .slice A2 m c2, .int .i64 e, .slice A3 q c3] #[.int .i64 0, .slice none 0 0, .int .i64 0, .int .i64 0, .int .i64 0, .slice none 0 0, .int .i64 0, .slice none 0 0] rfl rfl HZ3.out size_Bk rfl (by simp [Value.oneCell']) ?_)
  refine bodyPost_ret (results_cell_row Try.results94 _ _ (w.heap.size + 1) 67 #[.int .i64 p, .slice A1 n c1, .int .i64 k, .int .i64 a, .int .i64 t, .slice A2 m c2, .int .i64 e, .slice A3 q c3] (0, 0) _ rfl HZ3.out.rowed Try.underlying67 rfl size_Bk) rfl ?_
  refine ⟨[.int .i64 p, .slice A1 n c1, .int .i64 k, .int .i64 a, .int .i64 t, .slice A2 m c2, .int .i64 e, .slice A3 q c3], rfl, below_setr HB3.out (Nat.le_succ _), fun U hU => ?_⟩
  have g0 := ((HF0_3.out.row (w.heap.size + 1) #[.int .i64 p, .slice A1 n c1, .int .i64 k, .int .i64 a, .int .i64 t, .slice A2 m c2, .int .i64 e, .slice A3 q c3] (by omega)).thin (show w.heap.size ≤ w.heap.size + 2 by omega)) U hU
  have g1 := ((HF1_3.out.row (w.heap.size + 1) #[.int .i64 p, .slice A1 n c1, .int .i64 k, .int .i64 a, .int .i64 t, .slice A2 m c2, .int .i64 e, .slice A3 q c3] (by omega)).thin (show w.heap.size ≤ w.heap.size + 2 by omega)) U hU
  have g2 := ((HF2_3.out.row (w.heap.size + 1) #[.int .i64 p, .slice A1 n c1, .int .i64 k, .int .i64 a, .int .i64 t, .slice A2 m c2, .int .i64 e, .slice A3 q c3] (by omega)).thin (show w.heap.size ≤ w.heap.size + 2 by omega)) U hU
  rw [List.map_id'] at g0
  rw [← HN1.out] at g0 ⊢
  rw [← HN2.out] at g1 ⊢
  rw [← HN3.out] at g2 ⊢
  exact ⟨A1, c1, A2, c2, A3, c3, rfl, g0, g1, g2⟩
set_option maxRecDepth 100000 in
set_option maxHeartbeats 8000000 in
theorem ownFunc_any (x : Fn) (cs : List Value) (w : World) (h : FnC w cs x) (hk : FnK 1048576 x) :
    Calls Try.prog 74 #[.agg cs.toArray] w (Made FnC x w) := by
  obtain ⟨A, c, rfl, hi⟩ := h
  obtain ⟨s, b, p, l⟩ := x
  obtain ⟨h1, -, h4⟩ := hk
  dsimp only at *
  have HC1 := Lib.hid (fun (U : World) (hU : Below w.heap.size w U) => eachBk_any (fun x => x) 94 #[] #[] l A l.length c U rfl (by omega) (hi.next hU) (fun _ _ => by kernel_rfl) (fun x hx cs V hV hc => ownBlock_any x cs V hc (h4 x hx)))
  obtain ⟨n, hn1⟩ : ∃ n, l.length = n := ⟨_, rfl⟩
  rw [hn1] at HC1
  have HN1 := Lib.hid hn1
  rw [hn1]
  clear hi h1 h4 hn1
  obtain ⟨w0, hw0⟩ : ∃ U, (w.alloc (.cells #[.string s, .int .i64 b, .int .i64 p, .slice A n c] 50)).alloc (.cells #[.string ⟨#[]⟩, .int .i64 0, .int .i64 0, .slice none 0 0] 50) = U := ⟨_, rfl⟩
  obtain ⟨hb0, hz0, hz1, hsz⟩ := two_new w 50 #[.string s, .int .i64 b, .int .i64 p, .slice A n c] #[.string ⟨#[]⟩, .int .i64 0, .int .i64 0, .slice none 0 0]
  rw [hw0] at hb0 hz0 hz1 hsz
  have HA0 := Lib.hid hz0
  have HZ0 := Lib.hid hz1
  have HB0 := Lib.hid hb0
  have HS0 := Lib.hid (show w.heap.size + 2 ≤ w0.heap.size by omega)
  have c0_0 : w0.cell? ⟨w.heap.size, 0, none⟩ = some (.string s) := hz0.cell 0
  have c0_1 : w0.cell? ⟨w.heap.size, 1, none⟩ = some (.int .i64 b) := hz0.cell 1
  have c0_2 : w0.cell? ⟨w.heap.size, 2, none⟩ = some (.int .i64 p) := hz0.cell 2
  have c0_3 : w0.cell? ⟨w.heap.size, 3, none⟩ = some (.slice A n c) := hz0.cell 3
  clear hz0 hz1 hb0 hsz
  go_enter Try.func74, Try.ntmps74
  go_upto_region 1 with fail
  try rw [hw0]
  clear hw0
  go_wp2_with fail
  refine (HC1.out w0 HB0.out).mono ?_
  rintro r u1 ⟨A1, c1, rfl, hb1, ho1⟩
  rw [List.length_map, HN1.out]
  rw [List.length_map, HN1.out] at ho1
  have hf1 := made_fresh BkC.lay ho1
  clear ho1
  have HA1' := Lib.hid (HA0.out.next hb1)
  have HZ1' := Lib.hid (HZ0.out.next hb1)
  have HB1' := Lib.hid (bthen HB0.out hb1)
  have HF0' := Lib.hid ((hf1).thin HS0.out)
  have HS1' := Lib.hid (show w.heap.size + 2 ≤ u1.heap.size from Nat.le_trans HS0.out hb1.size)
  have d1_0 : u1.cell? ⟨w.heap.size, 0, none⟩ = some (.string s) := HA1'.out.cell 0
  have d1_1 : u1.cell? ⟨w.heap.size, 1, none⟩ = some (.int .i64 b) := HA1'.out.cell 1
  have d1_2 : u1.cell? ⟨w.heap.size, 2, none⟩ = some (.int .i64 p) := HA1'.out.cell 2
  have d1_3 : u1.cell? ⟨w.heap.size, 3, none⟩ = some (.slice A n c) := HA1'.out.cell 3
  have f1 : u1.frozen? ⟨w.heap.size, 3, none⟩ = false := HA1'.out.free 3
  clear c0_0 c0_1 c0_2 c0_3 hb1 hf1
  obtain ⟨w1, hw1⟩ : ∃ U, u1.setCell ⟨w.heap.size, 3, none⟩ (.slice A1 n c1) = U := ⟨_, rfl⟩
  have HA1 := Lib.hid (HA1'.out.put 3 (.slice A1 n c1))
  have HZ1 := Lib.hid (HZ1'.out.set ⟨w.heap.size, 3, none⟩ (.slice A1 n c1) (by simp))
  have HB1 := Lib.hid (below_setc (u := .slice A1 n c1) (a := ⟨w.heap.size, 3, none⟩) HB1'.out (by simp))
  have HS1 := Lib.hid (show w.heap.size + 2 ≤ (u1.setCell ⟨w.heap.size, 3, none⟩ (.slice A1 n c1)).heap.size by rw [World.size_setCell]; exact HS1'.out)
  have HF0_1 := Lib.hid (HF0'.out.set ⟨w.heap.size, 3, none⟩ (.slice A1 n c1) (by simp))
  rw [hw1] at HA1 HZ1 HB1 HS1 HF0_1
  have c1_0 : w1.cell? ⟨w.heap.size, 0, none⟩ = some (.string s) := HA1.out.cell 0
  have c1_1 : w1.cell? ⟨w.heap.size, 1, none⟩ = some (.int .i64 b) := HA1.out.cell 1
  have c1_2 : w1.cell? ⟨w.heap.size, 2, none⟩ = some (.int .i64 p) := HA1.out.cell 2
  have c1_3 : w1.cell? ⟨w.heap.size, 3, none⟩ = some (.slice A1 n c1) := HA1.out.cell 3
  go_wp2_with (refine store_whole (T := 50) rfl _ _ rfl (w.heap.size + 1) #[.string s, .int .i64 b, .int .i64 p, .slice A1 n c1] #[.string ⟨#[]⟩, .int .i64 0, .int .i64 0, .slice none 0 0] rfl rfl HZ1.out size_Fn rfl (by simp [Value.oneCell']) ?_)
  refine bodyPost_ret (results_cell_row Try.results74 _ _ (w.heap.size + 1) 50 #[.string s, .int .i64 b, .int .i64 p, .slice A1 n c1] (0, 0) _ rfl HZ1.out.rowed Try.underlying50 rfl size_Fn) rfl ?_
  refine ⟨[.string s, .int .i64 b, .int .i64 p, .slice A1 n c1], rfl, below_setr HB1.out (Nat.le_succ _), fun U hU => ?_⟩
  have g0 := ((HF0_1.out.row (w.heap.size + 1) #[.string s, .int .i64 b, .int .i64 p, .slice A1 n c1] (by omega)).thin (show w.heap.size ≤ w.heap.size + 2 by omega)) U hU
  rw [List.map_id'] at g0
  rw [← HN1.out] at g0 ⊢
  exact ⟨A1, c1, rfl, g0⟩
end Go.Proofs.Ytoglmdadpchhoaa
