/- Package bit: Take, of every bytes. -/
import Derived.Test.YtjldddpchiaalaaUL
namespace Go.Proofs.Ytjldddpchiaalaa
open Go.RowKit
namespace Q

set_option maxRecDepth 100000 in
set_option maxHeartbeats 4000000 in
theorem rtake_nyy (l : List UInt8) (w : World) (hl : l.length ≤ 140737488355328) (hp : l.take 4 = [77, 73, 82, 49]) {m : Md} {s1 : List UInt8} {e1 : Int} (hm : modR (l.drop 4, 0) = (m, (s1, e1))) (hok : MdOk m) (hA : s1 ≠ []) (hB : 65535 < l.length)
    (hC : (refuseR 4 (refuseR (checkE m) (refuseR 3 (s1, e1)))).2 = 0) : Calls Try.prog 9 #[.string (strB l)] w (TakePostB l w) := by
  have HTE := Lib.hid (show takeE l = (refuseR 4 (refuseR (checkE m) (refuseR 3 (s1, e1)))).2 by unfold takeE; rw [if_pos hp, hm]; dsimp only; rw [if_neg hA]; rw [if_pos hB])
  have HTM := Lib.hid (show takeM l = m by unfold takeM; rw [if_pos ⟨hp, by rw [HTE.out]; exact hC⟩, hm])
  have HC := Lib.hid (fun (U : World) => scutPrefix_any l U (by omega))
  rw [if_pos hp, decide_eq_true hp] at HC
  obtain ⟨U, hU⟩ : ∃ U, (w.alloc (.cells #[.slice none 0 0, .slice none 0 0] 25)).alloc (.cells #[.string (strB (l.drop 4)), .int .i64 0] 54) = U := ⟨_, rfl⟩
  have HUS := Lib.hid (show w.heap.size + 2 ≤ U.heap.size ∧ Below w.heap.size w U from by
    rw [← hU]
    exact ⟨by rw [World.size_alloc, World.size_alloc]; exact Nat.le_refl _, balloc (balloc (Below.refl _ w) _) _⟩)
  have hrd : Rd U (w.heap.size + 1) (l.drop 4, 0) := by
    rw [← hU]
    refine ⟨?_, by simp only [List.length_drop]; omega⟩
    have := heap_alloc_new (w.alloc (.cells #[.slice none 0 0, .slice none 0 0] 25)) (.cells #[.string (strB (l.drop 4)), .int .i64 0] 54)
    rw [World.size_alloc] at this
    exact this
  have HZ := Lib.hid (show Whole U w.heap.size 25 #[.slice none 0 0, .slice none 0 0] from by
    rw [← hU]
    unfold Whole
    rw [Lib.alloc_old _ _ _ (by rw [World.size_alloc]; omega)]
    exact heap_alloc_new _ _)
  have HM := Lib.hid (rmodule_any hrd)
  rw [hm] at HM
  dsimp only at HM
  have HOK := Lib.hid hok
  obtain ⟨z, hz⟩ : ∃ z, l.length = z := ⟨_, rfl⟩
  have hsz : (strB l).size = z := by rw [strB_size, hz]
  have z1 : (z : Int) ≤ 140737488355328 := by omega
  have d1 : decide ((65535 : Int) < (z : Int)) = true := decide_eq_true (by omega)
  obtain ⟨X, hX⟩ : ∃ X, strB s1 = X := ⟨_, rfl⟩
  have hx : (X == ⟨#[]⟩) = false ∧ (X.toList == (⟨#[]⟩ : ByteArray).toList) = false := by
    rw [← hX]
    exact str_other (fun h => hA (by have := congrArg (fun b : ByteArray => b.data.toList) h; simpa [strB] using this))
  have x1 := hx.1
  have x2 := hx.2
  have x3 : (X.toList == []) = false := by
    have e : (⟨#[]⟩ : ByteArray).toList = [] := by rw [ByteArray.toList_eq]
    rw [← e]; exact x2
  have HX := Lib.hid hX
  have q0 : ((refuseR 4 (refuseR (checkE m) (refuseR 3 (s1, e1)))).2 == 0) = true := by simpa using hC
  obtain ⟨E, hE⟩ : ∃ E, (refuseR 4 (refuseR (checkE m) (refuseR 3 (s1, e1)))).2 = E := ⟨_, rfl⟩
  rw [hE] at HTE q0 hC
  have HEE := Lib.hid hE
  have HCC := Lib.hid hC
  obtain ⟨nf, hnf⟩ : ∃ n, m.f.length = n := ⟨_, rfl⟩
  obtain ⟨ng, hng⟩ : ∃ n, m.g.length = n := ⟨_, rfl⟩
  rw [hnf, hng] at HM
  have HNF := Lib.hid hnf
  have HNG := Lib.hid hng
  have hz2 : w.heap.size + 1 < U.heap.size := by have := HUS.out.1; omega
  have HU := Lib.hid hU
  clear hl hp hm hok hA hB hrd hz hX hx hE hC hnf hng hU
  go_enter Try.func9, Try.ntmps9
  go_wp2_with fail
  refine (HC.out _).mono ?_
  rintro e w1 ⟨rfl, rfl⟩
  go_wp2_with fail
  rw [HU.out]
  refine HM.out.mono ?_
  rintro e w2 ⟨A, c, A', c', rfl, hF, hR⟩
  obtain ⟨om, hom⟩ : ∃ o, Obj.cells #[.slice A nf c, .slice A' ng c'] 25 (0, 0) = o := ⟨_, rfl⟩
  have HS2 := Lib.hid hR.2.size
  have T3 := Lib.hid (show Tk w (w.heap.size + 1) (s1, e1) w2.heap.size w.heap.size #[.slice A nf c, .slice A' ng c'] #[.slice none 0 0, .slice none 0 0] U.heap.size (fun V => MdAt V (.slice A nf c) (.slice A' ng c') m) (w2.alloc om) from by
    have h1 := HUS.out.1
    have h2 := HS2.out
    have hg := World.grownBy_alloc w2 om none
    refine ⟨((rd_alloc hR.1 om)).1, ?_, by unfold Whole; rw [heap_alloc_new, hom], ?_, by omega, by omega, by omega, Nat.le_refl _, hF.later hg (fun r e => by cases e), by omega⟩
    · exact balloc (HUS.out.2.trans (below_grown hR.2 (by omega) (fun r e => by cases e; omega))) om
    · exact (Lib.alloc_old w2 om w.heap.size (by omega)).trans ((hR.2.block w.heap.size (by omega) (fun e => by have := Option.some.inj e; omega)).trans HZ.out))
  obtain ⟨W3, hW3⟩ : ∃ V, w2.alloc om = V := ⟨_, rfl⟩
  rw [hW3] at T3
  subst hom
  have c0 : W3.cell? ⟨w.heap.size + 1, 0, none⟩ = some (.string X) := by rw [← HX.out]; exact T3.out.rd.c0
  have c1 : W3.cell? ⟨w.heap.size + 1, 1, none⟩ = some (.int .i64 e1) := T3.out.rd.c1
  have m0 : W3.cell? ⟨w2.heap.size, 0, none⟩ = some (.slice A nf c) := T3.out.wb.cell 0
  have m1 : W3.cell? ⟨w2.heap.size, 1, none⟩ = some (.slice A' ng c') := T3.out.wb.cell 1
  clear hF hR
  go_wp2_with fail
  try rw [hW3]
  clear hW3
  refine (refuse_any 3 T3.out.rd).mono ?_
  rintro e W4 ⟨rfl, h4⟩
  have T4 := Lib.hid (T3.out.call h4)
  clear h4 m0 m1 c0 c1
  have m0 : W4.cell? ⟨w2.heap.size, 0, none⟩ = some (.slice A nf c) := T4.out.wb.cell 0
  have m1 : W4.cell? ⟨w2.heap.size, 1, none⟩ = some (.slice A' ng c') := T4.out.wb.cell 1
  go_wp2_with fail
  refine (check_any m A A' nf c ng c' W4 HOK.out HNF.out HNG.out T4.out.f.at_).mono ?_
  rintro e W5 ⟨rfl, h5⟩
  have T5 := Lib.hid (T4.out.call (T4.out.rd.below h5))
  clear h5 m0 m1
  go_wp2_with fail
  refine (refuse_any (checkE m) T5.out.rd).mono ?_
  rintro e W6 ⟨rfl, h6⟩
  have T6 := Lib.hid (T5.out.call h6)
  clear h6
  go_wp2_with fail
  refine (refuse_any 4 T6.out.rd).mono ?_
  rintro e W7 ⟨rfl, h7⟩
  have T7 := Lib.hid (T6.out.call h7)
  clear h7
  have y1 : W7.cell? ⟨w.heap.size + 1, 1, none⟩ = some (.int .i64 E) := by rw [← HEE.out]; exact T7.out.rd.c1
  have m0 : W7.cell? ⟨w2.heap.size, 0, none⟩ = some (.slice A nf c) := T7.out.wb.cell 0
  have m1 : W7.cell? ⟨w2.heap.size, 1, none⟩ = some (.slice A' ng c') := T7.out.wb.cell 1
  have HRW := Lib.hid (T7.out.row (by have := HUS.out.1; omega) #[.slice A nf c, .slice A' ng c'])
  go_wp2_with (refine store_whole (T := 25) rfl _ _ rfl w.heap.size #[.slice A nf c, .slice A' ng c'] #[.slice none 0 0, .slice none 0 0] rfl rfl T7.out.wz size_Md rfl (by simp [Value.oneCell']) ?_)
  refine bodyPost_ret (results_mod_two Try.results9 _ _ w.heap.size (.slice A nf c) (.slice A' ng c') _ rfl rfl HRW.out.2.1) rfl ?_
  refine ⟨A, c, A', c', ?_, ?_, HRW.out.1⟩
  · rw [HTM.out, HTE.out, HNF.out, HNG.out, HCC.out]
    rfl
  · rw [HTM.out, HNF.out, HNG.out]
    exact HRW.out.2.2
end Q
end Go.Proofs.Ytjldddpchiaalaa
