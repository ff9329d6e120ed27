/- Package bit: Take, of every bytes. -/
import Derived.Test.YtjldddpchiaalaaUK
namespace Go.Proofs.Ytjldddpchiaalaa
open Go.RowKit
namespace Q

theorem results_mod_two {fn : Func} {p q : Tmp} (h : fn.results = #[.cell p 25, .tmp q]) (tmps : Array Value) (w : World) (B : Nat) (a c b : Value) (hp : tmps.getD p undef = .pointer (some ⟨B, 0, none⟩)) (hq : tmps.getD q undef = b) (hM : Whole w B 25 #[a, c]) :
    (results fn tmps).run Try.prog w = .ok (.tuple #[.agg #[a, c], b]) w := by
  have hp' : tmps[p]?.getD undef = .pointer (some ⟨B, 0, none⟩) := by simpa using hp
  have hq' : tmps[q]?.getD undef = b := by simpa using hq
  have hl := run_loadVar_row (P := Try.prog) w B _ 25 _ _ _ hM Try.underlying25 rfl size_Md
  simp [results, h, hp', hq', asAddr, hl]
/-- where Take stands: the reader, the module's variable, the answer's block -/
structure Tk (w : World) (rb : Nat) (st : St) (B R : Nat) (cs zs : Array Value) (n : Nat) (P : World → Prop) (W : World) : Prop where
  rd : Rd W rb st
  b : Below w.heap.size w W
  wb : Whole W B 25 cs
  wz : Whole W R 25 zs
  nb : rb ≠ B
  nr : rb ≠ R
  hr : w.heap.size ≤ rb
  hR : w.heap.size ≤ R
  f : Fresh n W P
  hn : rb < n
theorem Tk.call {w W W' : World} {rb B R n : Nat} {st st' : St} {cs zs : Array Value} {P : World → Prop} (h : Tk w rb st B R cs zs n P W) (k : RdTo W rb st' W') : Tk w rb st' B R cs zs n P W' :=
  ⟨k.1, h.b.trans (below_grown k.2 h.b.size (fun r e => by cases e; exact h.hr)), (k.2.block B h.wb.lt (fun e => h.nb (Option.some.inj e).symm)).trans h.wb, (k.2.block R h.wz.lt (fun e => h.nr (Option.some.inj e).symm)).trans h.wz, h.nb, h.nr, h.hr, h.hR, h.f.later k.2 (fun r e => by cases e; exact h.hn), h.hn⟩
theorem Tk.row {w W : World} {rb B R n : Nat} {st : St} {cs zs : Array Value} {P : World → Prop} (h : Tk w rb st B R cs zs n P W) (hRn : R < n) (vs : Array Value) : Below w.heap.size w (W.setRow R vs) ∧ Whole (W.setRow R vs) R 25 vs ∧ P (W.setRow R vs) := by
  refine ⟨h.b.trans (below_grown (setRow_grown W R vs) h.b.size (fun r e => by cases e; exact h.hR)), ?_, (h.f.later (setRow_grown W R vs) (fun r e => by cases e; exact hRn)).at_⟩
  have hz := h.wz
  unfold Whole at hz ⊢
  simp [World.setRow, Array.getElem?_modify, hz]
theorem no_md (W : World) : MdAt W (.slice none 0 0) (.slice none 0 0) noMd := ⟨.inl ⟨rfl, .inl rfl⟩, .inl ⟨rfl, .inl rfl⟩⟩
/-- what Take answers -/
def TakePostB (l : List UInt8) (w : World) (e : Ending) (w' : World) : Prop :=
  ∃ A c A' c', e = .returned (.tuple #[.agg #[.slice A (takeM l).f.length c, .slice A' (takeM l).g.length c'], .int .i64 (takeE l)]) ∧ MdAt w' (.slice A (takeM l).f.length c) (.slice A' (takeM l).g.length c') (takeM l) ∧ Below w.heap.size w w'
set_option maxRecDepth 100000 in
set_option maxHeartbeats 2000000 in
theorem rtake_none (l : List UInt8) (w : World) (hl : l.length ≤ 140737488355328) (hp : l.take 4 ≠ [77, 73, 82, 49]) : Calls Try.prog 9 #[.string (strB l)] w (TakePostB l w) := by
  have HE := Lib.hid (show takeE l = 3 ∧ takeM l = noMd by unfold takeM takeE; rw [if_neg hp, if_neg (fun h => hp h.1)]; exact ⟨rfl, rfl⟩)
  have HC := Lib.hid (fun (U : World) => scutPrefix_any l U (by omega))
  rw [if_neg hp, decide_eq_false hp] at HC
  have HZ := Lib.hid (show Whole (w.alloc (.cells #[.slice none 0 0, .slice none 0 0] 25)) w.heap.size 25 #[.slice none 0 0, .slice none 0 0] from heap_alloc_new _ _)
  clear hp hl
  go_enter Try.func9, Try.ntmps9
  go_wp2_with fail
  refine (HC.out _).mono ?_
  rintro e w1 ⟨rfl, rfl⟩
  go_wp2_with (refine store_whole (T := 25) rfl _ _ rfl w.heap.size #[.slice none 0 0, .slice none 0 0] #[.slice none 0 0, .slice none 0 0] rfl rfl HZ.out size_Md rfl (by simp [Value.oneCell']) ?_)
  refine bodyPost_ret (results_mod_two Try.results9 _ _ w.heap.size (.slice none 0 0) (.slice none 0 0) _ rfl rfl ?_) rfl ?_
  · exact setRow_heap _ _ _ _ _ _ HZ.out
  · refine ⟨none, 0, none, 0, by rw [HE.out.1, HE.out.2]; rfl, by rw [HE.out.2]; exact no_md _, ?_⟩
    exact (balloc (Below.refl _ w) _).trans (below_grown (setRow_grown _ w.heap.size _) (by rw [World.size_alloc]; omega) (fun r e => by cases e; exact Nat.le_refl _))
end Q
end Go.Proofs.Ytjldddpchiaalaa
