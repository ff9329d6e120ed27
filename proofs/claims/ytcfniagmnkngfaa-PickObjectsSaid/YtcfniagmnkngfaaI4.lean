/- Package ir: the values that an instruction uses. -/
import Derived.Test.YtcfniagmnkngfaaBI
import Derived.Test.YtcfniagmnkngfaaBA
namespace Go.Proofs.Ytcfniagmnkngfaa
open Go.RowKit

theorem alloc3 (w : World) (X B A : Obj) : (((w.alloc X).alloc B).alloc A).heap[w.heap.size + 2]? = some A ∧ (((w.alloc X).alloc B).alloc A).heap[w.heap.size + 1]? = some B := by
  have e := heap_alloc_new ((w.alloc X).alloc B) A
  have f := heap_alloc_new (w.alloc X) B
  rw [World.size_alloc, World.size_alloc] at e
  rw [World.size_alloc] at f
  exact ⟨e, by rw [Lib.alloc_old _ _ _ (by simp)]; exact f⟩
theorem own3 (w : World) (X B : Obj) (a : Int) : OwnsI (((w.alloc X).alloc B).alloc (.cells #[.int .i64 a] 3)) w.heap.size (.slice (some ⟨w.heap.size + 2, 0, none⟩) 1 1) [a] :=
  ⟨rfl, .inr ⟨w.heap.size + 2, 1, _, rfl, by omega, (alloc3 _ _ _ _).1, Nat.le_refl _, by unfold maxLen; omega, rfl, rfl⟩⟩
theorem own2 (w : World) (X : Obj) (a : Int) : OwnsI ((w.alloc X).alloc (.cells #[.int .i64 a] 3)) w.heap.size (.slice (some ⟨w.heap.size + 1, 0, none⟩) 1 1) [a] :=
  ⟨rfl, .inr ⟨w.heap.size + 1, 1, _, rfl, by omega, by have f := heap_alloc_new (w.alloc X) (.cells #[.int .i64 a] 3); rw [World.size_alloc] at f; exact f, Nat.le_refl _, by unfold maxLen; omega, rfl, rfl⟩⟩
theorem ints3 (w : World) (X A : Obj) (b : Int) : Ints (((w.alloc X).alloc (.cells #[.int .i64 b] 3)).alloc A) (.slice (some ⟨w.heap.size + 1, 0, none⟩) 1 1) [b] :=
  .inr ⟨by simp, w.heap.size + 1, 0, 1, rfl, by simp, fun i hi => by
    have h : i = 0 := by simpa using hi
    subst h
    rw [Lib.cell_of_heap (alloc3 _ _ _ _).2]
    rfl⟩
theorem owns_down {W : World} {b b2 : Nat} {v : Value} {l : List Int} (h : OwnsI W b v l) (hb : b2 ≤ b) : OwnsI W b2 v l := by
  obtain ⟨h1, h2 | ⟨g, cap, cur, hv, hge, r⟩⟩ := h
  · exact ⟨h1, .inl h2⟩
  · exact ⟨h1, .inr ⟨g, cap, cur, hv, by omega, r⟩⟩
set_option maxRecDepth 100000 in
set_option maxHeartbeats 1000000 in
theorem uses_2 (a b k : Int) (s : ByteArray) (v : Value) (w : World) :
    Calls Try.prog 158 #[.agg #[.int .i64 2, .int .i64 a, .int .i64 b, .int .u64 k, .string s, v]] w (NewInts [a, b] w) := by
  go_enter Try.func158, Try.ntmps158
  go_wp2_with ((
    at_builtin
    refine wpList_append_ints rfl _ _ rfl w.heap.size _ [a] [b] rfl ?own _ rfl ?ints ?len ?base ?_
    case own => exact own3 _ _ _ _
    case ints => exact ints3 _ _ _ _
    case len => show (1 + 1) * 8 ≤ 140737488355328; omega
    case base => simp only [World.size_alloc]; omega
    intro v' w1 hown hgrow))
  have HO := Lib.hid hown
  have HB := Lib.hid ((balloc (balloc (balloc (Below.refl _ w) _) _) _).grown hgrow (by simp only [World.size_alloc]; omega) (fun k hk => by cases hk; show w.heap.size ≤ w.heap.size + 1 + 1; omega))
  clear hown hgrow
  go_wp2_with fail
  go_ret
  exact ⟨_, rfl, HO.out, HB.out⟩
set_option maxRecDepth 100000 in
set_option maxHeartbeats 1000000 in
theorem uses_3 (a b k : Int) (s : ByteArray) (v : Value) (w : World) :
    Calls Try.prog 158 #[.agg #[.int .i64 3, .int .i64 a, .int .i64 b, .int .u64 k, .string s, v]] w (NewInts [a, b] w) := by
  go_enter Try.func158, Try.ntmps158
  go_wp2_with ((
    at_builtin
    refine wpList_append_ints rfl _ _ rfl w.heap.size _ [a] [b] rfl ?own _ rfl ?ints ?len ?base ?_
    case own => exact own3 _ _ _ _
    case ints => exact ints3 _ _ _ _
    case len => show (1 + 1) * 8 ≤ 140737488355328; omega
    case base => simp only [World.size_alloc]; omega
    intro v' w1 hown hgrow))
  have HO := Lib.hid hown
  have HB := Lib.hid ((balloc (balloc (balloc (Below.refl _ w) _) _) _).grown hgrow (by simp only [World.size_alloc]; omega) (fun k hk => by cases hk; show w.heap.size ≤ w.heap.size + 1 + 1; omega))
  clear hown hgrow
  go_wp2_with fail
  go_ret
  exact ⟨_, rfl, HO.out, HB.out⟩
set_option maxRecDepth 100000 in
set_option maxHeartbeats 1000000 in
theorem uses_4 (a b k : Int) (s : ByteArray) (v : Value) (w : World) :
    Calls Try.prog 158 #[.agg #[.int .i64 4, .int .i64 a, .int .i64 b, .int .u64 k, .string s, v]] w (NewInts [a, b] w) := by
  go_enter Try.func158, Try.ntmps158
  go_wp2_with ((
    at_builtin
    refine wpList_append_ints rfl _ _ rfl w.heap.size _ [a] [b] rfl ?own _ rfl ?ints ?len ?base ?_
    case own => exact own3 _ _ _ _
    case ints => exact ints3 _ _ _ _
    case len => show (1 + 1) * 8 ≤ 140737488355328; omega
    case base => simp only [World.size_alloc]; omega
    intro v' w1 hown hgrow))
  have HO := Lib.hid hown
  have HB := Lib.hid ((balloc (balloc (balloc (Below.refl _ w) _) _) _).grown hgrow (by simp only [World.size_alloc]; omega) (fun k hk => by cases hk; show w.heap.size ≤ w.heap.size + 1 + 1; omega))
  clear hown hgrow
  go_wp2_with fail
  go_ret
  exact ⟨_, rfl, HO.out, HB.out⟩
set_option maxRecDepth 100000 in
set_option maxHeartbeats 1000000 in
theorem uses_5 (a b k : Int) (s : ByteArray) (v : Value) (w : World) :
    Calls Try.prog 158 #[.agg #[.int .i64 5, .int .i64 a, .int .i64 b, .int .u64 k, .string s, v]] w (NewInts [a, b] w) := by
  go_enter Try.func158, Try.ntmps158
  go_wp2_with ((
    at_builtin
    refine wpList_append_ints rfl _ _ rfl w.heap.size _ [a] [b] rfl ?own _ rfl ?ints ?len ?base ?_
    case own => exact own3 _ _ _ _
    case ints => exact ints3 _ _ _ _
    case len => show (1 + 1) * 8 ≤ 140737488355328; omega
    case base => simp only [World.size_alloc]; omega
    intro v' w1 hown hgrow))
  have HO := Lib.hid hown
  have HB := Lib.hid ((balloc (balloc (balloc (Below.refl _ w) _) _) _).grown hgrow (by simp only [World.size_alloc]; omega) (fun k hk => by cases hk; show w.heap.size ≤ w.heap.size + 1 + 1; omega))
  clear hown hgrow
  go_wp2_with fail
  go_ret
  exact ⟨_, rfl, HO.out, HB.out⟩
set_option maxRecDepth 100000 in
set_option maxHeartbeats 1000000 in
theorem uses_6 (a b k : Int) (s : ByteArray) (v : Value) (w : World) :
    Calls Try.prog 158 #[.agg #[.int .i64 6, .int .i64 a, .int .i64 b, .int .u64 k, .string s, v]] w (NewInts [a, b] w) := by
  go_enter Try.func158, Try.ntmps158
  go_wp2_with ((
    at_builtin
    refine wpList_append_ints rfl _ _ rfl w.heap.size _ [a] [b] rfl ?own _ rfl ?ints ?len ?base ?_
    case own => exact own3 _ _ _ _
    case ints => exact ints3 _ _ _ _
    case len => show (1 + 1) * 8 ≤ 140737488355328; omega
    case base => simp only [World.size_alloc]; omega
    intro v' w1 hown hgrow))
  have HO := Lib.hid hown
  have HB := Lib.hid ((balloc (balloc (balloc (Below.refl _ w) _) _) _).grown hgrow (by simp only [World.size_alloc]; omega) (fun k hk => by cases hk; show w.heap.size ≤ w.heap.size + 1 + 1; omega))
  clear hown hgrow
  go_wp2_with fail
  go_ret
  exact ⟨_, rfl, HO.out, HB.out⟩
set_option maxRecDepth 100000 in
set_option maxHeartbeats 1000000 in
theorem uses_7 (a b k : Int) (s : ByteArray) (v : Value) (w : World) :
    Calls Try.prog 158 #[.agg #[.int .i64 7, .int .i64 a, .int .i64 b, .int .u64 k, .string s, v]] w (NewInts [a, b] w) := by
  go_enter Try.func158, Try.ntmps158
  go_wp2_with ((
    at_builtin
    refine wpList_append_ints rfl _ _ rfl w.heap.size _ [a] [b] rfl ?own _ rfl ?ints ?len ?base ?_
    case own => exact own3 _ _ _ _
    case ints => exact ints3 _ _ _ _
    case len => show (1 + 1) * 8 ≤ 140737488355328; omega
    case base => simp only [World.size_alloc]; omega
    intro v' w1 hown hgrow))
  have HO := Lib.hid hown
  have HB := Lib.hid ((balloc (balloc (balloc (Below.refl _ w) _) _) _).grown hgrow (by simp only [World.size_alloc]; omega) (fun k hk => by cases hk; show w.heap.size ≤ w.heap.size + 1 + 1; omega))
  clear hown hgrow
  go_wp2_with fail
  go_ret
  exact ⟨_, rfl, HO.out, HB.out⟩
set_option maxRecDepth 100000 in
set_option maxHeartbeats 1000000 in
theorem uses_8 (a b k : Int) (s : ByteArray) (v : Value) (w : World) :
    Calls Try.prog 158 #[.agg #[.int .i64 8, .int .i64 a, .int .i64 b, .int .u64 k, .string s, v]] w (NewInts [a, b] w) := by
  go_enter Try.func158, Try.ntmps158
  go_wp2_with ((
    at_builtin
    refine wpList_append_ints rfl _ _ rfl w.heap.size _ [a] [b] rfl ?own _ rfl ?ints ?len ?base ?_
    case own => exact own3 _ _ _ _
    case ints => exact ints3 _ _ _ _
    case len => show (1 + 1) * 8 ≤ 140737488355328; omega
    case base => simp only [World.size_alloc]; omega
    intro v' w1 hown hgrow))
  have HO := Lib.hid hown
  have HB := Lib.hid ((balloc (balloc (balloc (Below.refl _ w) _) _) _).grown hgrow (by simp only [World.size_alloc]; omega) (fun k hk => by cases hk; show w.heap.size ≤ w.heap.size + 1 + 1; omega))
  clear hown hgrow
  go_wp2_with fail
  go_ret
  exact ⟨_, rfl, HO.out, HB.out⟩
set_option maxRecDepth 100000 in
set_option maxHeartbeats 1000000 in
theorem uses_9 (a b k : Int) (s : ByteArray) (v : Value) (w : World) :
    Calls Try.prog 158 #[.agg #[.int .i64 9, .int .i64 a, .int .i64 b, .int .u64 k, .string s, v]] w (NewInts [a, b] w) := by
  go_enter Try.func158, Try.ntmps158
  go_wp2_with ((
    at_builtin
    refine wpList_append_ints rfl _ _ rfl w.heap.size _ [a] [b] rfl ?own _ rfl ?ints ?len ?base ?_
    case own => exact own3 _ _ _ _
    case ints => exact ints3 _ _ _ _
    case len => show (1 + 1) * 8 ≤ 140737488355328; omega
    case base => simp only [World.size_alloc]; omega
    intro v' w1 hown hgrow))
  have HO := Lib.hid hown
  have HB := Lib.hid ((balloc (balloc (balloc (Below.refl _ w) _) _) _).grown hgrow (by simp only [World.size_alloc]; omega) (fun k hk => by cases hk; show w.heap.size ≤ w.heap.size + 1 + 1; omega))
  clear hown hgrow
  go_wp2_with fail
  go_ret
  exact ⟨_, rfl, HO.out, HB.out⟩
set_option maxRecDepth 100000 in
set_option maxHeartbeats 1000000 in
theorem uses_10 (a b k : Int) (s : ByteArray) (v : Value) (w : World) :
    Calls Try.prog 158 #[.agg #[.int .i64 10, .int .i64 a, .int .i64 b, .int .u64 k, .string s, v]] w (NewInts [a, b] w) := by
  go_enter Try.func158, Try.ntmps158
  go_wp2_with ((
    at_builtin
    refine wpList_append_ints rfl _ _ rfl w.heap.size _ [a] [b] rfl ?own _ rfl ?ints ?len ?base ?_
    case own => exact own3 _ _ _ _
    case ints => exact ints3 _ _ _ _
    case len => show (1 + 1) * 8 ≤ 140737488355328; omega
    case base => simp only [World.size_alloc]; omega
    intro v' w1 hown hgrow))
  have HO := Lib.hid hown
  have HB := Lib.hid ((balloc (balloc (balloc (Below.refl _ w) _) _) _).grown hgrow (by simp only [World.size_alloc]; omega) (fun k hk => by cases hk; show w.heap.size ≤ w.heap.size + 1 + 1; omega))
  clear hown hgrow
  go_wp2_with fail
  go_ret
  exact ⟨_, rfl, HO.out, HB.out⟩
set_option maxRecDepth 100000 in
set_option maxHeartbeats 1000000 in
theorem uses_11 (a b k : Int) (s : ByteArray) (v : Value) (w : World) :
    Calls Try.prog 158 #[.agg #[.int .i64 11, .int .i64 a, .int .i64 b, .int .u64 k, .string s, v]] w (NewInts [a, b] w) := by
  go_enter Try.func158, Try.ntmps158
  go_wp2_with ((
    at_builtin
    refine wpList_append_ints rfl _ _ rfl w.heap.size _ [a] [b] rfl ?own _ rfl ?ints ?len ?base ?_
    case own => exact own3 _ _ _ _
    case ints => exact ints3 _ _ _ _
    case len => show (1 + 1) * 8 ≤ 140737488355328; omega
    case base => simp only [World.size_alloc]; omega
    intro v' w1 hown hgrow))
  have HO := Lib.hid hown
  have HB := Lib.hid ((balloc (balloc (balloc (Below.refl _ w) _) _) _).grown hgrow (by simp only [World.size_alloc]; omega) (fun k hk => by cases hk; show w.heap.size ≤ w.heap.size + 1 + 1; omega))
  clear hown hgrow
  go_wp2_with fail
  go_ret
  exact ⟨_, rfl, HO.out, HB.out⟩
set_option maxRecDepth 100000 in
set_option maxHeartbeats 1000000 in
theorem uses_13 (a b k : Int) (s : ByteArray) (v : Value) (w : World) :
    Calls Try.prog 158 #[.agg #[.int .i64 13, .int .i64 a, .int .i64 b, .int .u64 k, .string s, v]] w (NewInts [a] w) := by
  go_enter Try.func158, Try.ntmps158
  go_wp2_with fail
  go_ret
  exact ⟨_, rfl, own2 _ _ _, balloc (balloc (Below.refl _ w) _) _⟩
set_option maxRecDepth 100000 in
set_option maxHeartbeats 1000000 in
theorem uses_16 (a b k : Int) (s : ByteArray) (v : Value) (w : World) :
    Calls Try.prog 158 #[.agg #[.int .i64 16, .int .i64 a, .int .i64 b, .int .u64 k, .string s, v]] w (NewInts [a] w) := by
  go_enter Try.func158, Try.ntmps158
  go_wp2_with fail
  go_ret
  exact ⟨_, rfl, own2 _ _ _, balloc (balloc (Below.refl _ w) _) _⟩
set_option maxRecDepth 100000 in
set_option maxHeartbeats 1000000 in
theorem uses_14 (a b k : Int) (s : ByteArray) (v : Value) (l : List Int) (w : World) (hP : Ints w v l) (hn : l.length * 8 ≤ 140737488355328) :
    Calls Try.prog 158 #[.agg #[.int .i64 14, .int .i64 a, .int .i64 b, .int .u64 k, .string s, v]] w (NewInts l w) := by
  have HP := Lib.hid (fun (W : World) (hb : Below w.heap.size w W) => iclone_any (hP.next hb) hn)
  clear hP hn
  go_enter Try.func158, Try.ntmps158
  go_wp2_with fail
  refine (HP.out _ (balloc (Below.refl _ w) _)).mono ?_
  rintro e w2 ⟨v', rfl, ho, hb⟩
  have HO := Lib.hid (show OwnsI w2 w.heap.size v' l from owns_down ho (by simp))
  have HB := Lib.hid (bthen (balloc (Below.refl _ w) _) hb)
  clear ho hb
  go_wp2_with fail
  go_ret
  exact ⟨_, rfl, HO.out, HB.out⟩
end Go.Proofs.Ytcfniagmnkngfaa
