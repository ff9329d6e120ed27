/- Package own: a module is copied. -/
import Derived.Test.YtoglmdadpchhoaaO2
import Derived.Deep.RegionHeld3
namespace Go.Proofs.Ytoglmdadpchhoaa
open Go.RowKit

/-- a row of globals that was cloned is of one's own -/
theorem gl_own {w w' : World} {vv v : Value} {l : List Gl} {ys : List Value} (hb : w.heap.size ≤ w'.heap.size) (ho : w'.ownsRow w.heap.size 54 4 v l.length ys)
    (hsrc : 0 < l.length → ∃ b off cap, vv = .slice (some ⟨b, off, none⟩) l.length cap ∧ b < w.heap.size ∧ (∀ (i : Nat) (hi : i < l.length), GlAt w b (off + i * 4) l[i]) ∧ ∀ j, j < l.length * 4 → ys[j]? = w.cell? ⟨b, off + j, none⟩) : OwnAt 4 54 GlC w.heap.size w'.heap.size l v w' := by
  refine ⟨ys, w'.heap.size, ho, hb, Nat.le_refl _, Nat.le_refl _, fun g e => (ho.lt g e).2, fun j hj => ?_⟩
  obtain ⟨b, off, cap, -, -, hp, hc⟩ := hsrc (by omega)
  obtain ⟨h0, h1, h2, h3⟩ := hp j hj
  have q : ∀ c, c < 4 → ys[j * 4 + c]? = w.cell? ⟨b, off + j * 4 + c, none⟩ := fun c h => by rw [hc _ (by omega), Nat.add_assoc]
  refine ⟨[.string l[j].s, .int .i64 l[j].b, .bool l[j].h, .int .u64 l[j].i], rfl, fun k hk => ?_, fun U _ => rfl⟩
  rw [q k hk]
  match k, hk with
  | 0, _ => exact h0
  | 1, _ => exact h1
  | 2, _ => exact h2
  | 3, _ => exact h3
/-- a module that a call makes in memory of its own -/
def MadeMd (m : Md) (w : World) (e : Ending) (w' : World) : Prop :=
  ∃ F cf G cg h, e = .returned (.agg #[.slice F m.f.length cf, .slice G m.g.length cg]) ∧ Below w.heap.size w w' ∧ OwnAt 4 50 FnC w.heap.size h m.f (.slice F m.f.length cf) w' ∧ OwnAt 4 54 GlC h w'.heap.size m.g (.slice G m.g.length cg) w'
theorem size_Md : (Try.prog.info? 25).map (·.size) = some 2 := by kernel_rfl
theorem md_next {w W W' : World} {B : Nat} {c0 c1 : Value} (hb : Below W.heap.size W W') (h : W.cell? ⟨B, 0, none⟩ = some c0 ∧ W.cell? ⟨B, 1, none⟩ = some c1 ∧ Below w.heap.size w W) :
    W'.cell? ⟨B, 0, none⟩ = some c0 ∧ W'.cell? ⟨B, 1, none⟩ = some c1 ∧ Below w.heap.size w W' := by
  obtain ⟨h0, h1, h2⟩ := h
  have hB := World.block_lt_of_cell? W _ h0
  exact ⟨(cellNext hB hb _).trans h0, (cellNext hB hb _).trans h1, bthen h2 hb⟩
theorem md_below {w W : World} {B : Nat} {c0 c1 : Value} (h : W.cell? ⟨B, 0, none⟩ = some c0 ∧ W.cell? ⟨B, 1, none⟩ = some c1 ∧ Below w.heap.size w W) : Below w.heap.size w W := h.2.2
theorem md_row {w W : World} {B R : Nat} {c0 c1 : Value} {cs : Array Value} (h : W.cell? ⟨B, 0, none⟩ = some c0 ∧ W.cell? ⟨B, 1, none⟩ = some c1 ∧ Below w.heap.size w W) (hR : B < R ∧ w.heap.size ≤ R) :
    (W.setRow R cs).cell? ⟨B, 0, none⟩ = some c0 ∧ (W.setRow R cs).cell? ⟨B, 1, none⟩ = some c1 ∧ Below w.heap.size w (W.setRow R cs) := by
  obtain ⟨h0, h1, h2⟩ := h
  have e : (W.setRow R cs).heap[B]? = W.heap[B]? := by simp [World.setRow, Array.getElem?_modify, show ¬ R = B by omega]
  exact ⟨(World.cell?_of_block e).trans h0, (World.cell?_of_block e).trans h1, below_setr h2 hR.2⟩
set_option maxRecDepth 100000 in
set_option maxHeartbeats 8000000 in
theorem ownModule_any (m : Md) (F G : Option Addr) (cf cg : Nat) (w : World) (hk : MdK 1048576 m) (hS : MdAt w (.slice F m.f.length cf) (.slice G m.g.length cg) m) :
    Calls Try.prog 39 #[.agg #[.slice F m.f.length cf, .slice G m.g.length cg]] w (MadeMd m w) := by
  obtain ⟨k1, k2, k3⟩ := hk
  have HC1 := Lib.hid (fun (U : World) (hU : Below w.heap.size w U) => eachFn_any (fun x => x) 74 #[] #[] m.f F m.f.length cf U rfl (by omega) (hS.1.next hU) (fun _ _ => by kernel_rfl) (fun x hx cs V hV hc => ownFunc_any x cs V hc (k3 x hx)))
  have HC2 := Lib.hid (fun (U : World) (hU : Below w.heap.size w U) => cloneGls_any (hS.2.next hU) (by omega))
  obtain ⟨fs, gs⟩ := m
  dsimp only at *
  obtain ⟨nf, hnf⟩ : ∃ n, fs.length = n := ⟨_, rfl⟩
  obtain ⟨ng, hng⟩ : ∃ n, gs.length = n := ⟨_, rfl⟩
  have HNF := Lib.hid hnf
  have HNG := Lib.hid hng
  rw [hnf] at HC1
  rw [hng] at HC2
  unfold MadeMd
  dsimp only
  rw [hnf, hng]
  clear hS k1 k2 k3 hnf hng
  obtain ⟨w0, hw0⟩ : ∃ U, (w.alloc (.cells #[.slice F nf cf, .slice G ng cg] 25)).alloc (.cells #[.slice none 0 0, .slice none 0 0] 25) = U := ⟨_, rfl⟩
  obtain ⟨hb0, hz0, hz1, hsz⟩ := two_new w 25 #[.slice F nf cf, .slice G ng cg] #[.slice none 0 0, .slice none 0 0]
  rw [hw0] at hb0 hz0 hz1 hsz
  have HZ0 := Lib.hid hz1
  have HS0 := Lib.hid (show w.heap.size + 2 ≤ w0.heap.size by omega)
  have hd : w0.drew.cell? ⟨w.heap.size, 0, none⟩ = some (.slice F nf cf) ∧ w0.drew.cell? ⟨w.heap.size, 1, none⟩ = some (.slice G ng cg) ∧ Below w.heap.size w w0.drew := ⟨hz0.cell 0, hz0.cell 1, hb0.drew⟩
  have HB0 := Lib.hid hb0
  clear hz0 hz1 hb0 hsz
  go_enter Try.func39, Try.ntmps39
  go_upto_region 8 with fail
  try rw [hw0]
  clear hw0
  refine wp_region_held_drew (S := fun W' => W'.cell? ⟨w.heap.size, 0, none⟩ = some (.slice F nf cf) ∧ W'.cell? ⟨w.heap.size, 1, none⟩ = some (.slice G ng cg) ∧ Below w.heap.size w W') (by kernel_rfl) hd (fun hHeld => ?_)
  refine wpAnyH_take (i := 0) (v := ?_) rfl (by kernel_rfl) (by kernel_rfl) (by kernel_rfl) (fun _ _ _ h => h) (Or.inl ⟨by rfl, ?_⟩) hHeld ?_
  rotate_left
  · intro W' hSw; (try dsimp only at hSw); go_simp; try (with_reducible rfl)
  (try simp only [Act.put, List.getElem_toArray, List.getElem_cons_zero, List.setIfInBounds_toArray, List.set_cons_zero, List.set_cons_succ])
  refine wpAnyH_take (i := 1) (v := ?_) rfl (by kernel_rfl) (by kernel_rfl) (by kernel_rfl) (fun _ _ _ h => h) (Or.inl ⟨by rfl, ?_⟩) hHeld ?_
  rotate_left
  · intro W' hSw; (try dsimp only at hSw); go_simp; try (with_reducible rfl)
  (try simp only [Act.put, List.getElem_toArray, List.getElem_cons_zero, List.getElem_cons_succ, List.setIfInBounds_toArray, List.set_cons_zero, List.set_cons_succ])
  refine wpAnyH_take (i := 3) (v := ?_) rfl (by kernel_rfl) (by kernel_rfl) (by kernel_rfl) (fun _ _ _ h => h) (Or.inl ⟨by rfl, ?_⟩) hHeld ?_
  rotate_left
  · intro W' hSw; (try dsimp only at hSw); go_simp; try (with_reducible rfl)
  (try simp only [Act.put, List.getElem_toArray, List.getElem_cons_zero, List.getElem_cons_succ, List.setIfInBounds_toArray, List.set_cons_zero, List.set_cons_succ])
  refine wpAnyH_take (i := 4) (v := ?_) rfl (by kernel_rfl) (by kernel_rfl) (by kernel_rfl) (fun _ _ _ h => h) (Or.inl ⟨by rfl, ?_⟩) hHeld ?_
  rotate_left
  · intro W' hSw; (try dsimp only at hSw); go_simp; try (with_reducible rfl)
  (try simp only [Act.put, List.getElem_toArray, List.getElem_cons_zero, List.getElem_cons_succ, List.setIfInBounds_toArray, List.set_cons_zero, List.set_cons_succ])
  refine wpAnyH_ready (rs := [2]) (by kernel_rfl) (by simp) ?_
  refine AllReadyH.cons rfl (fun K hK => ?_) AllReadyH.nil
  go_simp
  refine Calls.mono (HC1.out _ (md_below hd)) ?_
  rintro r u1 ⟨A1, c1, rfl, hb1, ho1⟩
  rw [List.length_map, HNF.out] at ho1 ⊢
  rw [List.map_id'] at ho1
  have hd1 := md_next hb1 hd
  refine hK.out _ _ hd1 (fun hHeld => ?_)
  clear hK
  (try simp only [Act.put, List.getElem_toArray, List.getElem_cons_zero, List.getElem_cons_succ, List.setIfInBounds_toArray, List.set_cons_zero, List.set_cons_succ])
  refine wpAnyH_ready (rs := [5]) (by kernel_rfl) (by simp) ?_
  refine AllReadyH.cons rfl (fun K hK => ?_) AllReadyH.nil
  go_simp
  refine Calls.mono (HC2.out _ (md_below hd1)) ?_
  rintro r u2 ⟨v2, zs, rfl, ho2, hr2, hb2, hsrc⟩
  obtain ⟨A2, c2, hv2⟩ := RowOf.slice hr2
  rw [HNG.out] at hv2
  subst hv2
  have hd2 := md_next hb2 hd1
  have HZ2 := Lib.hid ((HZ0.out.next (Below.refl _ w0).drew).next (bthen hb1 hb2))
  refine hK.out _ _ hd2 (fun hHeld => ?_)
  clear hK
  (try simp only [Act.put, List.getElem_toArray, List.getElem_cons_zero, List.getElem_cons_succ, List.setIfInBounds_toArray, List.set_cons_zero, List.set_cons_succ])
  refine wpAnyH_take (i := 6) (v := ?_) rfl (by kernel_rfl) (by kernel_rfl) (by kernel_rfl) (fun _ _ _ h => h) (Or.inl ⟨by rfl, ?_⟩) hHeld ?_
  rotate_left
  · intro W' hSw; (try dsimp only at hSw); go_simp; try (with_reducible rfl)
  (try simp only [Act.put, List.getElem_toArray, List.getElem_cons_zero, List.getElem_cons_succ, List.setIfInBounds_toArray, List.set_cons_zero, List.set_cons_succ])
  have HO2 := Lib.hid ((gl_own hb2.size ho2 hsrc).row (w.heap.size + 1) #[.slice A1 nf c1, .slice A2 ng c2] (.inl (by have := HS0.out; have := hb1.size; have h3 : w0.drew.heap.size = w0.heap.size := rfl; omega)))
  have HO1 := Lib.hid ((((ho1.call hb2).thin (show w.heap.size + 2 ≤ w0.drew.heap.size from HS0.out)).row (w.heap.size + 1) #[.slice A1 nf c1, .slice A2 ng c2] (.inl (by omega))).thin (show w.heap.size ≤ w.heap.size + 2 by omega))
  have HB := Lib.hid (below_setr (R := w.heap.size + 1) (cs := #[.slice A1 nf c1, .slice A2 ng c2]) (md_below hd2) (Nat.le_succ _))
  have HR := Lib.hid (HZ2.out.rowed (ds := #[.slice A1 nf c1, .slice A2 ng c2]))
  clear ho2 hr2 ho1 hb1 hb2 hd1 hd hsrc
  refine wpAnyH_ready (rs := [7]) (by kernel_rfl) (by simp) ?_
  refine AllReadyH.cons rfl (fun K hK => ?_) AllReadyH.nil
  refine wp_store_row _ _ _ rfl (w.heap.size + 1) #[.slice A1 nf c1, .slice A2 ng c2] rfl rfl _ _ HZ2.out size_Md rfl (by simp [Value.oneCell']) ?_
  refine hK.out _ _ (md_row hd2 (by omega)) (fun hHeld => ?_)
  clear hK hd2
  (try simp only [Act.put, List.getElem_toArray, List.getElem_cons_zero, List.getElem_cons_succ])
  refine wpAnyH_done (by kernel_rfl) ?_ _
  go_wp2_with fail
  refine bodyPost_ret (results_cell_row Try.results39 _ _ (w.heap.size + 1) 25 #[.slice A1 nf c1, .slice A2 ng c2] (0, 0) _ rfl HR.out Try.underlying25 rfl size_Md) rfl ?_
  refine ⟨_, _, _, _, u1.heap.size, rfl, HB.out, HO1.out, ?_⟩
  have h := HO2.out
  simpa [World.setRow] using h
end Go.Proofs.Ytoglmdadpchhoaa
