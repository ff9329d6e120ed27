/- RvDoes: what an instruction reckons, and whether a branch goes, is as the reference's. -/
import Derived.Test.YthaieajakdcodaaDoorZNH
import Derived.Test.YthaieajakdcodaaDoorZA
namespace Go.Proofs.YthaieajakdcodaaDoor
open Go.RowKit

set_option maxRecDepth 100000 in
set_option maxHeartbeats 2000000 in
theorem does_walk (k rd ra rb i a b pc : Int) (w : World) (T : E.Tabs w) (a0 : 0 ≤ a) (a1 : a ≤ 18446744073709551615) (b0 : 0 ≤ b) (b1 : b ≤ 18446744073709551615) :
    Calls Tryd.prog 3 #[.agg #[.int .i64 k, .int .i64 rd, .int .i64 ra, .int .i64 rb, .int .i64 i, .int .u64 a, .int .u64 b, .int .u64 pc]] w fun e w' => e = .returned (.bool true) ∧ Below w.heap.size w w' := by
  have HS := Lib.hid (fun (W : World) (hb : Below w.heap.size w W) => shown_any W (T.next hb))
  have HF := E.Five.new (w.alloc (.cells #[.int .i64 k, .int .i64 rd, .int .i64 ra, .int .i64 rb, .int .i64 i, .int .u64 a, .int .u64 b, .int .u64 pc] 26)) k rd ra rb i
  rw [World.size_alloc] at HF
  have HF := Lib.hid HF
  have H1 := Lib.hid (fun W => does_any k rd ra rb i a b pc W a0 a1 b0 b1)
  have H2 := Lib.hid (fun W => rdoes_any k rd ra rb i a b pc W a0 a1 b0 b1)
  have H3 := Lib.hid (fun W => goes_any k rd ra rb i a b W)
  have H4 := Lib.hid (fun W => rgoes_any k rd ra rb i a b W)
  obtain ⟨D, hD⟩ : ∃ D, doesI k i a b pc = D := ⟨_, rfl⟩
  obtain ⟨G, hG⟩ : ∃ D, goesB k a b = D := ⟨_, rfl⟩
  rw [hD] at H1 H2
  rw [hG] at H3 H4
  clear hD hG T a0 a1 b0 b1
  go_enter Tryd.func3, Tryd.ntmps3
  go_wp2_with fail
  refine (HS.out _ (balloc (balloc (Below.refl _ w) _) _)).mono ?_
  rintro e w1 ⟨rfl, hb1⟩
  have HB1 := Lib.hid (bthen (balloc (balloc (Below.refl _ w) _) _) hb1)
  obtain ⟨c0, c1, c2, c3, c4, -, fb⟩ := HF.out.next hb1
  clear hb1
  have f0 := fun p => Past.cell fb c0 p
  have f1 := fun p => Past.cell fb c1 p
  have f2 := fun p => Past.cell fb c2 p
  have f3 := fun p => Past.cell fb c3 p
  have f4 := fun p => Past.cell fb c4 p
  go_wp2_with fail
  refine wp_region_past (by kernel_rfl) (by kernel_rfl) ?_
  repeat (go_big_quiet_step (first | (go_at_call 12; refine past_of (H1.out _)) | (go_at_call 13; refine past_of (H2.out _)) | (go_at_call 14; refine past_of (H3.out _)) | (go_at_call 15; refine past_of (H4.out _))))
  refine wpQuiet_nil ?_
  rintro _ ⟨⟨W1, hb5⟩, rfl⟩
  have HB5 := Lib.hid (bthen HB1.out hb5)
  clear f0 f1 f2 f3 f4 fb c0 c1 c2 c3 c4 hb5
  go_wp2_with fail
  go_ret
  exact ⟨rfl, HB5.out⟩
end Go.Proofs.YthaieajakdcodaaDoor
