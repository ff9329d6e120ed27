/- What the texts of package resolve stand on, of the packages ir and pick (part 5). -/
import Derived.Test.YtpifndpbmjmglaaHE3
namespace Go.Proofs.Ytpifndpbmjmglaa
open Go.RowKit
def Cap (v : Value) : Prop := ∃ A n cap, v = .slice A n cap ∧ n ≤ cap ∧ cap ≤ maxLen
theorem Pages.take {W : World} {A : Option Addr} {nv cap i : Nat} {m : List M.Pg} (h : Pages W (.slice A nv cap) m) (hi : i ≤ nv) : Pages W (.slice A i cap) (m.take i) := by
  rcases h with ⟨rfl, h | ⟨a, c, h⟩⟩ | ⟨h0, b, off, c, h, hp⟩
  · cases h
    obtain rfl : i = 0 := by omega
    exact .inl ⟨by simp, .inl rfl⟩
  · cases h
    obtain rfl : i = 0 := by omega
    exact .inl ⟨by simp, .inr ⟨_, _, rfl⟩⟩
  · cases h
    by_cases hi0 : i = 0
    · subst hi0
      exact .inl ⟨by simp, .inr ⟨_, _, rfl⟩⟩
    · have hl : (m.take i).length = i := by rw [List.length_take]; omega
      refine .inr ⟨by omega, b, off, cap, by rw [hl], hp.1, fun j hj => ?_⟩
      rw [List.getElem_take]
      exact hp.2 j (by omega)
theorem Pages.drop {W : World} {A : Option Addr} {nv cap i : Nat} {m : List M.Pg} (h : Pages W (.slice A nv cap) m) (hi : i ≤ nv) (hc : nv ≤ cap) :
    Pages W (.slice (if cap = i then A else Option.map (fun x => x.add (i * 3)) A) (nv - i) (cap - i)) (m.drop i) := by
  rcases h with ⟨rfl, h | ⟨a, c, h⟩⟩ | ⟨h0, b, off, c, h, hp⟩
  · cases h
    obtain rfl : i = 0 := by omega
    exact .inl ⟨by simp, .inl rfl⟩
  · cases h
    obtain rfl : i = 0 := by omega
    refine .inl ⟨by simp, .inr ?_⟩
    split <;> exact ⟨_, _, rfl⟩
  · cases h
    by_cases hi0 : i = m.length
    · subst hi0
      refine .inl ⟨by simp, .inr ?_⟩
      rw [Nat.sub_self]
      split <;> exact ⟨_, _, rfl⟩
    · have hl : (m.drop i).length = m.length - i := by rw [List.length_drop]
      rw [if_neg (by omega)]
      refine .inr ⟨by omega, b, off + i * 3, cap - i, by rw [hl, Option.map_some, pg_add], hp.1, fun j hj => ?_⟩
      rw [List.getElem_drop]
      have := hp.2 (i + j) (by omega)
      rw [show off + i * 3 + j * 3 = off + (i + j) * 3 by omega]
      exact this
def sel {α : Type} (x y z : α) : Nat → α | 0 => x | 1 => y | _ => z
theorem cat_sel (x y z : List M.Pg) : cat (sel x y z) 3 = x ++ (y ++ z) := cat_three _
theorem concat_at {x y z : List M.Pg} (w3 : World) {A0 A1 A2 : Option Addr} {n0 n1 n2 c0 c1 c2 : Nat} (h0 : Pages w3 (.slice A0 n0 c0) x) (h1 : Pages w3 (.slice A1 n1 c1) y) (h2 : Pages w3 (.slice A2 n2 c2) z)
    (hy : 1 ≤ n1) (hn : (n0 + n1 + n2) * 32 ≤ 140737488355328) :
    Calls Try.prog 39 #[.slice (some ⟨w3.heap.size, 0, none⟩) 3 3] (w3.alloc (.cells #[.slice A0 n0 c0, .slice A1 n1 c1, .slice A2 n2 c2] 28))
      (NewPages (x ++ (y ++ z)) (w3.alloc (.cells #[.slice A0 n0 c0, .slice A1 n1 c1, .slice A2 n2 c2] 28))) := by
  have e0 := h0.len
  have e1 := h1.len
  have e2 := h2.len
  rw [← cat_sel]
  have hh := heap_alloc_new w3 (.cells #[.slice A0 n0 c0, .slice A1 n1 c1, .slice A2 n2 c2] 28)
  have hb : Below w3.heap.size w3 (w3.alloc (.cells #[.slice A0 n0 c0, .slice A1 n1 c1, .slice A2 n2 c2] 28)) := balloc (Below.refl _ _) _
  refine concat_three w3.heap.size (sel A0 A1 A2) (sel c0 c1 c2) (sel x y z) _ (by simp) ?_ ?_ (by show 1 ≤ y.length; omega) (by rw [cat_sel]; simp only [List.length_append]; omega)
  · intro i hi
    match i, hi with
    | 0, _ => show _ = some (Value.slice A0 x.length c0); rw [← e0]; simp only [World.cell?]; rw [hh]; rfl
    | 1, _ => show _ = some (Value.slice A1 y.length c1); rw [← e1]; simp only [World.cell?]; rw [hh]; rfl
    | 2, _ => show _ = some (Value.slice A2 z.length c2); rw [← e2]; simp only [World.cell?]; rw [hh]; rfl
  · intro i hi
    match i, hi with
    | 0, _ => exact e0 ▸ h0.next hb
    | 1, _ => exact e1 ▸ h1.next hb
    | 2, _ => exact e2 ▸ h2.next hb
set_option maxRecDepth 100000 in
set_option maxHeartbeats 4000000 in
theorem map_any {m : List M.Pg} {v : Value} (a n perm : Int) {w : World} (hP : Pages w v m) (hw : Wf m) (hn : m.length * 32 ≤ 140737488355328) (hc : Cap v) (a0 : 0 ≤ a) (a1 : a ≤ 18446744073709551615) :
    Calls Try.prog 24 #[v, .int .u64 a, .int .i64 n, .int .i64 perm] w (NewPagesE (mapM m a n perm) (mapErr m a n perm) w) := by
  have HE := Lib.hid (mapErr_any a n perm hP hw a0 a1)
  have HP := Lib.hid hP
  obtain ⟨A, nv, cap, hv, hc1, hc2⟩ := hc
  have hnv : m.length = nv := by
    obtain ⟨A', cap', e⟩ := hP.slice
    rw [hv] at e; cases e; rfl
  have HNV := Lib.hid hnv
  by_cases h0 : mapErr m a n perm = 0
  · have HV := Lib.hid (show mapM m a n perm = m.take (M.low m a) ++ ((M.strs a (n * 256)).map (mkPg perm noughts) ++ m.drop (M.low m a)) by unfold mapM; rw [if_pos h0])
    obtain ⟨hr, hm, n1, n64, hpm, hby, hany, hlen⟩ := mapErr_zero h0
    have hR := Right.of hr hw.a0 hw.a1
    obtain ⟨N, rfl⟩ := Int.eq_ofNat_of_zero_le (show 0 ≤ n by omega)
    have HF := Lib.hid (fun (W : World) (hb : Below w.heap.size w W) => find_any a (hP.next hb) (by have := hR.len; omega) hR.up)
    have HBL := Lib.hid (fun W => blank_in a N perm W a0 a1 (by omega) (by omega) (by omega))
    have hlow := M.low_le m a
    rw [HV.out]
    rw [h0] at HE ⊢
    obtain ⟨i, hi⟩ : ∃ i, M.low m a = i := ⟨_, rfl⟩
    obtain ⟨th, hth⟩ : ∃ t, M.there m a = t := ⟨_, rfl⟩
    rw [hi] at hlow HF ⊢
    rw [hth] at HF
    rw [hnv] at hlow
    have hc3 : i ≤ cap := by omega
    have hc4 : nv ≤ cap := hc1
    subst hv
    have HC := Lib.hid hc2
    clear hP hw hn hnv h0 hr hm hany HV hR hi hth hc2 hc1
    go_enter Try.func24, Try.ntmps24
    go_wp2_with fail
    refine HE.out.mono ?_
    rintro e w1 ⟨rfl, hb1⟩
    have HB1 := Lib.hid hb1
    clear hb1
    go_wp2_with fail
    refine (HF.out _ HB1.out).mono ?_
    rintro e w2 ⟨rfl, hb2⟩
    have HB2 := Lib.hid (bthen HB1.out hb2)
    clear hb2
    go_wp2_with fail
    refine wp_region_any rfl ?_
    refine wpAny_take (i := 0) (v := ?_) rfl (by kernel_rfl) (by kernel_rfl) (by kernel_rfl) (fun _ _ _ h => h) (Or.inl ⟨by rfl, ?_⟩) ?_
    rotate_left
    · intro w; go_simp; try (with_reducible rfl)
    (try simp only [Act.put])
    refine wpAny_take (i := 1) (v := ?_) rfl (by kernel_rfl) (by kernel_rfl) (by kernel_rfl) (fun _ _ _ h => h) (Or.inl ⟨by rfl, ?_⟩) ?_
    rotate_left
    · intro w; go_simp; try (with_reducible rfl)
    (try simp only [Act.put])
    refine wpAny_take (i := 2) (v := ?_) rfl (by kernel_rfl) (by kernel_rfl) (by kernel_rfl) (fun _ _ _ h => h) (Or.inl ⟨by rfl, ?_⟩) ?_
    rotate_left
    · intro w; go_simp; try (with_reducible rfl)
    (try simp only [Act.put])
    refine wpAny_take (i := 3) (v := ?_) rfl (by kernel_rfl) (by kernel_rfl) (by kernel_rfl) (fun _ _ _ h => h) (Or.inl ⟨by rfl, ?_⟩) ?_
    rotate_left
    · intro w; go_simp; try (with_reducible rfl)
    (try simp only [Act.put])
    refine wpAny_take (i := 4) (v := ?_) rfl (by kernel_rfl) (by kernel_rfl) (by kernel_rfl) (fun _ _ _ h => h) (Or.inl ⟨by rfl, ?_⟩) ?_
    rotate_left
    · intro w; go_simp; try (with_reducible rfl)
    (try simp only [Act.put])
    refine wpAny_take (i := 5) (v := ?_) rfl (by kernel_rfl) (by kernel_rfl) (by kernel_rfl) (fun _ _ _ h => h) (Or.inl ⟨by rfl, ?_⟩) ?_
    rotate_left
    · intro w; go_simp; try (with_reducible rfl)
    (try simp only [Act.put])
    refine wpAny_take (i := 7) (v := ?_) rfl (by kernel_rfl) (by kernel_rfl) (by kernel_rfl) (fun _ _ _ h => h) (Or.inl ⟨by rfl, ?_⟩) ?_
    rotate_left
    · intro w; go_simp; try (with_reducible rfl)
    (try simp only [Act.put])
    refine wpAny_take (i := 8) (v := ?_) rfl (by kernel_rfl) (by kernel_rfl) (by kernel_rfl) (fun _ _ _ h => h) (Or.inl ⟨by rfl, ?_⟩) ?_
    rotate_left
    · intro w; go_simp; try (with_reducible rfl)
    (try simp only [Act.put])
    refine wpAny_take (i := 9) (v := ?_) rfl (by kernel_rfl) (by kernel_rfl) (by kernel_rfl) (fun _ _ _ h => h) (Or.inl ⟨by rfl, ?_⟩) ?_
    rotate_left
    · intro w; go_simp; try (with_reducible rfl)
    (try simp only [Act.put])
    refine wpAny_ready (rs := [6]) (by kernel_rfl) (by simp) ?_
    refine AllReady.cons rfl (fun K hK => ?_) AllReady.nil
    go_simp
    refine (HBL.out _).mono ?_
    rintro e w3 ⟨ov, rfl, hown3, hb3⟩
    refine hK _ _ ?_
    clear hK K
    (try simp only [Act.put])
    have HB3 := Lib.hid (show Below w.heap.size w w3 from bthen HB2.out.drew hb3)
    have P2 := hown3.pages
    obtain ⟨Ao, co, ho⟩ := P2.slice
    obtain ⟨bl, hbl⟩ : ∃ bl, List.map (mkPg perm noughts) (M.strs a ((N : Int) * 256)) = bl := ⟨_, rfl⟩
    have HBE0 := Lib.hid hbl
    have hbn : bl.length ≤ 16384 := by
      rw [← hbl, List.length_map]; exact Nat.le_trans M.strs_len (by omega)
    have hb1 : 1 ≤ bl.length := by
      rw [← hbl, List.length_map, M.strs_cons (by omega), List.length_cons]; omega
    rw [hbl] at ho P2
    obtain ⟨bn, hbe⟩ : ∃ bn, bl.length = bn := ⟨_, rfl⟩
    rw [hbe] at hbn hb1 ho
    subst ho
    have HPO := Lib.hid P2
    clear hown3 hb3 P2 hbl hbe
    obtain ⟨A2, hA2⟩ : ∃ A2, (if cap = i then A else Option.map (fun x => x.add (i * 3)) A) = A2 := ⟨_, rfl⟩
    have HP1 := Lib.hid (HP.out.take hlow)
    have HP2 := Lib.hid (HP.out.drop hlow hc4)
    rw [hA2] at HP2 ⊢
    clear hA2
    refine wpAny_ready (rs := [10]) (by kernel_rfl) (by simp) ?_
    refine AllReady.cons rfl (fun K hK => ?_) AllReady.nil
    go_simp
    refine hK _ _ ?_
    clear hK K
    (try simp only [Act.put])
    refine wpAny_ready (rs := [11]) (by kernel_rfl) (by simp) ?_
    refine AllReady.cons rfl (fun K hK => ?_) AllReady.nil
    go_simp
    have HLN := Lib.hid (show nv + N ≤ 64 by have := HNV.out; omega)
    refine (concat_at w3 ((HP1.out).next (HB3.out.mono (Nat.le_refl _))) HPO.out ((HP2.out).next (HB3.out.mono (Nat.le_refl _))) hb1 (by have := HLN.out; omega)).mono ?_
    rintro e w4 ⟨rv, rfl, hown4, hb4⟩
    refine hK _ _ ?_
    clear hK K
    (try simp only [Act.put])
    have HB4 := Lib.hid (bthen (balloc HB3.out _) hb4)
    have HO4 := Lib.hid (ownsP_base hown4 (show w.heap.size ≤ _ by have := HB3.out.size; simp; omega))
    obtain ⟨A4, c4, hr4⟩ := hown4.pages.slice
    obtain ⟨n4, hn4⟩ : ∃ n4, (m.take i ++ (bl ++ m.drop i)).length = n4 := ⟨_, rfl⟩
    rw [hn4] at hr4
    subst hr4
    clear hown4 hb4 hn4
    refine wpAny_ready (rs := [12]) (by kernel_rfl) (by simp) ?_
    refine AllReady.cons rfl (fun K hK => ?_) AllReady.nil
    go_simp
    refine hK _ _ ?_
    clear hK K
    (try simp only [Act.put])
    refine wpAny_ready (rs := [13]) (by kernel_rfl) (by simp) ?_
    refine AllReady.cons rfl (fun K hK => ?_) AllReady.nil
    go_simp
    refine hK _ _ ?_
    clear hK K
    (try simp only [Act.put])
    refine wpAny_done (by kernel_rfl) ?_ _
    go_wp2_with fail
    go_ret2
    exact ⟨_, rfl, by rw [HBE0.out]; exact HO4.out, HB4.out⟩
  · have HV := Lib.hid (show mapM m a n perm = m by unfold mapM; rw [if_neg h0])
    have HC := Lib.hid (fun (W : World) (hb : Below w.heap.size w W) => clone_any (hP.next hb) hn)
    rw [HV.out]
    obtain ⟨r, hr⟩ : ∃ r, mapErr m a n perm = r := ⟨_, rfl⟩
    rw [hr] at h0 HE ⊢
    have t0 : (r != 0) = true := by simpa using h0
    subst hv
    clear hP hw hn hnv hr h0 HV hc1 hc2
    go_enter Try.func24, Try.ntmps24
    go_wp2_with fail
    refine HE.out.mono ?_
    rintro e w1 ⟨rfl, hb1⟩
    have HB1 := Lib.hid hb1
    clear hb1
    go_wp2_with fail
    refine (HC.out _ HB1.out).mono ?_
    rintro e w3 ⟨ov, rfl, hown, hb3⟩
    have HB3 := Lib.hid (bthen HB1.out hb3)
    have HO := Lib.hid (ownsP_base hown HB1.out.size)
    obtain ⟨A2, cap2, hv2⟩ := hown.pages.slice
    rw [HNV.out] at hv2
    subst hv2
    clear hb3 hown
    go_wp2_with fail
    go_ret2
    exact ⟨_, rfl, HO.out, HB3.out⟩
end Go.Proofs.Ytpifndpbmjmglaa
namespace Go.Proofs.Ytpifndpbmjmglaa
open Go.RowKit
theorem OwnsP.cap {W : World} {base : Nat} {v : Value} {m : List M.Pg} (h : OwnsP W base v m) : Cap v := by
  rcases h.2 with ⟨hv, _⟩ | ⟨g, cap, cur, hv, _, _, h1, h2, _⟩
  · exact ⟨none, 0, 0, hv, Nat.le_refl _, by unfold maxLen; omega⟩
  · exact ⟨_, _, cap, hv, h1, h2⟩
theorem M.Right.wf {m : List M.Pg} (h : M.Right m) : Wf m := ⟨Nat.le_trans h.len (by omega), h.ge, h.le⟩
theorem cut_of {w w1 : World} {a p : Int} {d : ByteArray} {z : Int} {v1 : Value} {K : List M.Pg}
    (ho : OwnsP w1 ((w.alloc (.cells #[.int .u64 a, .int .i64 p, .string d, .int .u64 z] 41)).drew).heap.size v1 K)
    (hb : Below ((w.alloc (.cells #[.int .u64 a, .int .i64 p, .string d, .int .u64 z] 41)).drew).heap.size ((w.alloc (.cells #[.int .u64 a, .int .i64 p, .string d, .int .u64 z] 41)).drew) w1) :
    OwnsP w1 w.heap.size v1 K ∧ Below w.heap.size w w1 ∧ w1.cell? ⟨w.heap.size, 0, none⟩ = some (.int .u64 a) ∧ w1.cell? ⟨w.heap.size, 2, none⟩ = some (.string d) := by
  have hsz : ((w.alloc (.cells #[.int .u64 a, .int .i64 p, .string d, .int .u64 z] 41)).drew).heap.size = w.heap.size + 1 := by
    show (w.alloc _).heap.size = _
    simp
  refine ⟨ownsP_base ho (by omega), bthen ((balloc (Below.refl _ _) _).drew) hb, ?_, ?_⟩
  · rw [(bcell hb).1 _ _ (by omega)]
    show (w.alloc (.cells #[.int .u64 a, .int .i64 p, .string d, .int .u64 z] 41)).cell? ⟨w.heap.size, 0, none⟩ = _
    simp [go_sem]
  · rw [(bcell hb).1 _ _ (by omega)]
    show (w.alloc (.cells #[.int .u64 a, .int .i64 p, .string d, .int .u64 z] 41)).cell? ⟨w.heap.size, 2, none⟩ = _
    simp [go_sem]
set_option maxRecDepth 100000 in
set_option maxHeartbeats 2000000 in
theorem lay1_any {m : List M.Pg} {v : Value} (g : Sg) {w : World} (hP : Pages w v m) (hR : M.Right m) (hc : Cap v) (hg : SgOk g) :
    Calls Try.prog 10 #[v, sgV g] w fun e w' => ∃ v', e = .returned (.tuple #[v', .int .i64 (layE m g)]) ∧ (layE m g = 0 → OwnsP w' w.heap.size v' (layM m g)) ∧ Below w.heap.size w w' := by
  have HM := Lib.hid (fun (W : World) (hb : Below w.heap.size w W) => map_any g.a (sgN g) g.p (hP.next hb) hR.wf (by have := hR.len; omega) hc hg.a0 (by have := hg.a1; omega))
  have hK : M.Right (mapM m g.a (sgN g) g.p) := mapM_right hR hg.a0
  have HF := Lib.hid (fun (W : World) (u : Value) (h : Pages W u (mapM m g.a (sgN g) g.p)) => fill_any g.a g.d h hK.wf (by have := hK.len; omega) hg.a0 (by have := hg.a1; omega) (by have := hg.dz; have := hg.z2; omega))
  have hpg := hg.pages
  obtain ⟨a0, a1, md, p1, p7, p3, z1, z2, dz⟩ := hg
  have HU := Lib.hid (fun W => up_same g.z (by omega) (by omega) W)
  have hq : (upI g.z).tdiv 256 = (sgN g : Int) := by
    rw [Int.tdiv_eq_ediv_of_nonneg (by unfold upI; omega)]
    unfold sgN
    have : 0 ≤ upI g.z / 256 := by unfold upI; omega
    omega
  have hw1 : IntKind.u64.wrap (sgN g : Int) = (sgN g : Int) := by rw [IntKind.wrap_u64]; omega
  have hw2 : IntKind.i64.wrap (sgN g : Int) = (sgN g : Int) := by rw [IntKind.wrap_i64]; omega
  have HE := Lib.hid (show layE m g = if mapErr m g.a (sgN g) g.p = 0 then fillErr (mapM m g.a (sgN g) g.p) g.a g.d.size else mapErr m g.a (sgN g) g.p from rfl)
  have HV := Lib.hid (show layM m g = fillM (mapM m g.a (sgN g) g.p) g.a g.d from rfl)
  have HB0 := Lib.hid (((balloc (Below.refl w.heap.size w) (.cells #[.int .u64 g.a, .int .i64 g.p, .string g.d, .int .u64 g.z] 41)).drew))
  obtain ⟨a, p, d, z⟩ := g
  simp only at HM HF HU hq hw1 hw2 HE HV HB0
  obtain ⟨E, hE⟩ : ∃ E, layE m ⟨a, p, d, z⟩ = E := ⟨_, rfl⟩
  obtain ⟨L, hL⟩ : ∃ E, layM m ⟨a, p, d, z⟩ = E := ⟨_, rfl⟩
  rw [hE] at HE ⊢
  rw [hL] at HV ⊢
  obtain ⟨N, hN⟩ : ∃ N, sgN ⟨a, p, d, z⟩ = N := ⟨_, rfl⟩
  rw [hN] at HM HF hq hw1 hw2 HE HV
  obtain ⟨K, hKK⟩ : ∃ K, mapM m a N p = K := ⟨_, rfl⟩
  obtain ⟨er, her⟩ : ∃ E, mapErr m a N p = E := ⟨_, rfl⟩
  rw [hKK] at HM HF HE HV
  rw [her] at HM HE
  obtain ⟨U, hU⟩ : ∃ U, upI z = U := ⟨_, rfl⟩
  rw [hU] at HU hq
  obtain ⟨A, nv, cap, rfl, -, -⟩ := hc
  clear hP hR hK hpg a0 a1 md p1 p7 p3 z1 z2 dz hE hL hN hKK her hU
  unfold sgV
  simp only
  go_enter Try.func10, Try.ntmps10
  go_upto_region 1 with fail
  go_cut [0, 6] from 8 to 20 (fun v0 v6 wx => v6 = .int .i64 er ∧ OwnsP wx w.heap.size v0 K ∧ Below w.heap.size w wx ∧ wx.cell? ⟨w.heap.size, 0, none⟩ = some (.int .u64 a) ∧ wx.cell? ⟨w.heap.size, 2, none⟩ = some (.string d))
  case first =>
    go_region_with (first | (go_at_call 17; refine (HU.out _).mono ?_; rintro e w' ⟨rfl, rfl⟩) | (go_at_call 24; refine (HM.out _ HB0.out).mono ?_; rintro e w1 ⟨v1, rfl, ho1, hb1⟩; have HR := Lib.hid (cut_of ho1 hb1); clear ho1 hb1))
    all_goals
      go_wp2_with fail
      go_meet
      case rel => exact ⟨rfl, HR.out⟩
  case rest =>
    obtain ⟨rfl, ho, hb, k0, k2⟩ := hcut
    obtain ⟨A1, c1, hv1⟩ := ho.pages.slice
    have HO := Lib.hid ho
    have HB := Lib.hid hb
    by_cases h0 : er = 0
    · subst h0
      have HF1 := Lib.hid (HF.out wc _ ho.pages)
      have HE1 := Lib.hid (show E = fillErr K a d.size by rw [HE.out, if_pos rfl])
      subst hv1
      clear ho hb HF HE HM HU
      go_wp2_with fail
      refine HF1.out.mono ?_
      rintro r w2 ⟨v2, rfl, ho2, hb2⟩
      have HO2 := Lib.hid (ownsP_base ho2 HB.out.size)
      have HB2 := Lib.hid (bthen HB.out hb2)
      clear ho2 hb2
      go_wp2_with fail
      go_ret2
      exact ⟨v2, by rw [HE1.out]; rfl, fun _ => by rw [HV.out]; exact HO2.out, HB2.out⟩
    · have e1 : (er != 0) = true := by simpa using h0
      have HE1 := Lib.hid (show E = er by rw [HE.out, if_neg h0])
      have H0 := Lib.hid h0
      subst hv1
      clear ho hb HF HE HM HU h0
      go_wp2_with fail
      go_ret2
      exact ⟨_, by rw [HE1.out]; rfl, fun h => absurd (HE1.out.symm.trans h) H0.out, HB.out⟩
end Go.Proofs.Ytpifndpbmjmglaa
namespace Go.Proofs.Ytpifndpbmjmglaa
open Go.RowKit
/-- is the entry a place of this segment that holds instructions? -/
def atB (e : Int) (s : Sg) : Bool := decide (s.p % 2 = 1) && (decide (s.a ≤ e) && decide (e < s.a + s.z))
def beginB (l : List Sg) (e : Int) : Bool := l.any (atB e)
def mayB (l : List Sg) (e : Int) : Bool := segsB l && beginB l e
theorem segs_all {l : List Sg} : ∀ {e : Int}, goB e l = true → ∀ s ∈ l, segB s = true := by
  induction l with
  | nil => intro e _ s hs; cases hs
  | cons g t ih =>
    intro e h s hs
    simp only [goB, Bool.and_eq_true] at h
    rcases List.mem_cons.1 hs with rfl | hs
    · exact h.1
    · exact ih h.2.2 s hs
set_option maxRecDepth 100000 in
set_option maxHeartbeats 2000000 in
theorem beg1_any (s : Sg) (hs : SgIn s) (hb : segB s = true) (e : Int) (bl : Nat) (w : World) (he : w.cell? ⟨bl, 0, none⟩ = some (.int .u64 e)) :
    Calls Try.prog 35 #[sgV s, .pointer (some ⟨bl, 0, none⟩)] w fun ee w' => ee = .returned (.bool (atB e s)) ∧ Below w.heap.size w w' := by
  obtain ⟨a, p, d, z⟩ := s
  obtain ⟨-, ga, gp, -, gz, -⟩ := segB_parts hb
  obtain ⟨⟨a0, a1⟩, -, ⟨z0, z1⟩, -⟩ := hs
  obtain ⟨p1, p7, p3⟩ := permB_parts gp
  simp only at ga gz a0 a1 z0 z1 p1 p7 p3
  have hsum : IntKind.u64.wrap (a + z) = a + z := by rw [IntKind.wrap_u64]; omega
  have hlt := World.block_lt_of_cell? w _ he
  have hew : (w.alloc (.cells #[.int .u64 a, .int .i64 p, .string d, .int .u64 z] 41)).cell? ⟨bl, 0, none⟩ = some (.int .u64 e) := by
    rw [World.cell?_alloc_lt _ _ _ hlt]; exact he
  clear hb he hlt gp
  unfold sgV
  have : p = 1 ∨ p = 2 ∨ p = 4 ∨ p = 5 ∨ p = 6 := by omega
  rcases this with rfl | rfl | rfl | rfl | rfl
  · by_cases h1 : a ≤ e
    · have t1 : decide (a ≤ e) = true := decide_eq_true h1
      have HE := Lib.hid (show atB e ⟨a, 1, d, z⟩ = decide (e < a + z) by unfold atB; simp [h1])
      clear h1 p1 p7 p3
      go_enter Try.func35, Try.ntmps35
      have hb1 : (bits BinOp.and IntKind.i64 1 1 != 0) = true := by decide +kernel
      go_wp2_with fail
      go_ret
      exact ⟨ret_bool (by rw [HE.out]), balloc (Below.refl _ _) _⟩
    · have t1 : decide (a ≤ e) = false := decide_eq_false h1
      have HE := Lib.hid (show atB e ⟨a, 1, d, z⟩ = false by unfold atB; simp [h1])
      clear h1 p1 p7 p3
      go_enter Try.func35, Try.ntmps35
      have hb1 : (bits BinOp.and IntKind.i64 1 1 != 0) = true := by decide +kernel
      go_wp2_with fail
      go_ret
      exact ⟨ret_bool (by rw [HE.out]), balloc (Below.refl _ _) _⟩
  · have HE := Lib.hid (show atB e ⟨a, 2, d, z⟩ = false by unfold atB; simp)
    clear p1 p7 p3
    go_enter Try.func35, Try.ntmps35
    have hb1 : (bits BinOp.and IntKind.i64 2 1 != 0) = false := by decide +kernel
    go_wp2_with fail
    go_ret
    exact ⟨ret_bool (by rw [HE.out]), balloc (Below.refl _ _) _⟩
  · have HE := Lib.hid (show atB e ⟨a, 4, d, z⟩ = false by unfold atB; simp)
    clear p1 p7 p3
    go_enter Try.func35, Try.ntmps35
    have hb1 : (bits BinOp.and IntKind.i64 4 1 != 0) = false := by decide +kernel
    go_wp2_with fail
    go_ret
    exact ⟨ret_bool (by rw [HE.out]), balloc (Below.refl _ _) _⟩
  · by_cases h1 : a ≤ e
    · have t1 : decide (a ≤ e) = true := decide_eq_true h1
      have HE := Lib.hid (show atB e ⟨a, 5, d, z⟩ = decide (e < a + z) by unfold atB; simp [h1])
      clear h1 p1 p7 p3
      go_enter Try.func35, Try.ntmps35
      have hb1 : (bits BinOp.and IntKind.i64 5 1 != 0) = true := by decide +kernel
      go_wp2_with fail
      go_ret
      exact ⟨ret_bool (by rw [HE.out]), balloc (Below.refl _ _) _⟩
    · have t1 : decide (a ≤ e) = false := decide_eq_false h1
      have HE := Lib.hid (show atB e ⟨a, 5, d, z⟩ = false by unfold atB; simp [h1])
      clear h1 p1 p7 p3
      go_enter Try.func35, Try.ntmps35
      have hb1 : (bits BinOp.and IntKind.i64 5 1 != 0) = true := by decide +kernel
      go_wp2_with fail
      go_ret
      exact ⟨ret_bool (by rw [HE.out]), balloc (Below.refl _ _) _⟩
  · have HE := Lib.hid (show atB e ⟨a, 6, d, z⟩ = false by unfold atB; simp)
    clear p1 p7 p3
    go_enter Try.func35, Try.ntmps35
    have hb1 : (bits BinOp.and IntKind.i64 6 1 != 0) = false := by decide +kernel
    go_wp2_with fail
    go_ret
    exact ⟨ret_bool (by rw [HE.out]), balloc (Below.refl _ _) _⟩
end Go.Proofs.Ytpifndpbmjmglaa
namespace Go.Proofs.Ytpifndpbmjmglaa
open Go.RowKit
def IdxPost (l : List Sg) (e : Int) (w : World) (ee : Ending) (w' : World) : Prop := ∃ i : Int, ee = .returned (.int .i64 i) ∧ decide (0 ≤ i) = beginB l e ∧ i ≤ 1000000 ∧ -1 ≤ i ∧ Below w.heap.size w w'
set_option maxRecDepth 100000 in
set_option maxHeartbeats 4000000 in
theorem idx_any (l : List Sg) (A : Option Addr) (nv cap bl : Nat) (e : Int) (w : World) (hS : Segs w (.slice A nv cap) l) (hn4 : nv ≤ 4) (hI : ∀ s ∈ l, SgIn s) (hB : ∀ s ∈ l, segB s = true) (he : w.cell? ⟨bl, 0, none⟩ = some (.int .u64 e)) :
    Calls Try.prog 45 #[.slice A nv cap, .func (.func 35) #[] #[.pointer (some ⟨bl, 0, none⟩)]] w (IdxPost l e w) := by
  have HS := Lib.hid hS
  have HI := Lib.hid hI
  have HBB := Lib.hid hB
  have HN := Lib.hid hS.len
  have HE := Lib.hid he
  have HBL := Lib.hid (World.block_lt_of_cell? w _ he)
  have n4 : (nv : Int) ≤ 4 := by omega
  clear hS hI hB he
  go_enter Try.func45, Try.ntmps45
  go_wp2_with fail
  go_loopw [8] (fun iv wr => ∃ i : Nat, i ≤ nv ∧ iv = .int .i64 i ∧ (l.take i).any (atB e) = false ∧ Below w.heap.size w wr) (fun iv _ => nv - (intOf iv).toNat)
  case atStart => exact ⟨0, Nat.zero_le _, rfl, by simp, Below.refl _ _⟩
  case round =>
    obtain ⟨i, hi, rfl, hg, hb⟩ := hrel
    have HB := Lib.hid hb
    have HG := Lib.hid hg
    clear hb hg
    by_cases hlt : i < nv
    · have hil : i < l.length := by have := HN.out; omega
      obtain ⟨b, off, hA, c0, c1, c2, c3⟩ := (HS.out.next HB.out).at_ hil
      subst hA
      have hsg := HI.out l[i] (List.getElem_mem hil)
      have hsb := HBB.out l[i] (List.getElem_mem hil)
      have htk : (l.take (i + 1)).any (atB e) = ((l.take i).any (atB e) || atB e l[i]) := by rw [List.take_succ_eq_append_getElem hil, List.any_append, List.any_cons, List.any_nil, Bool.or_false]
      have hin : atB e l[i] = true → beginB l e = true := fun h => List.any_eq_true.2 ⟨_, List.getElem_mem hil, h⟩
      obtain ⟨g, hgg⟩ : ∃ g, l[i] = g := ⟨_, rfl⟩
      rw [hgg] at c0 c1 c2 c3 hsg hsb htk hin
      have HTK := Lib.hid htk
      have HIN := Lib.hid hin
      have hcl : wr.cell? ⟨bl, 0, none⟩ = some (.int .u64 e) := (HB.out.cell (p := ⟨bl, 0, none⟩) HBL.out).trans HE.out
      have HM := Lib.hid (beg1_any g hsg hsb e bl wr hcl)
      obtain ⟨a, p, d, z⟩ := g
      simp only at c0 c1 c2 c3
      unfold sgV at HM
      simp only at HM
      have HIL := Lib.hid hlt
      have i0 : (0 : Int) ≤ (i : Int) := by omega
      have i1 : (i : Int) < (nv : Int) := by omega
      clear hsg hsb hgg hil htk hin hcl
      cases hsb : atB e ⟨a, p, d, z⟩ with
      | false =>
        rw [hsb] at HM
        have HNX := Lib.hid (show (l.take (i + 1)).any (atB e) = false by rw [HTK.out, HG.out, hsb]; rfl)
        clear hsb
        go_wp2_with fail
        refine HM.out.mono ?_
        rintro e' w2 ⟨rfl, hb2⟩
        have HB2 := Lib.hid (bthen HB.out hb2)
        clear hb2
        go_wp2_with fail
        go_roundw
        case rel => exact ⟨i + 1, HIL.out, by go_num, HNX.out, HB2.out⟩
        case measure => have := HIL.out; simp [intOf]; omega
      | true =>
        rw [hsb] at HM
        have HF := Lib.hid (HIN.out hsb)
        clear hsb
        go_wp2_with fail
        refine HM.out.mono ?_
        rintro e' w2 ⟨rfl, hb2⟩
        have HB2 := Lib.hid (bthen HB.out hb2)
        clear hb2
        go_wp2_with fail
        go_ret
        exact ⟨(i : Int), rfl, by rw [HF.out]; exact decide_eq_true i0, by omega, by omega, HB2.out⟩
    · have HF := Lib.hid (show beginB l e = false by
        have h := HG.out
        rw [List.take_of_length_le (by have := HN.out; omega)] at h
        exact h)
      go_wp2_with fail
      go_ret
      exact ⟨-1, rfl, by rw [HF.out]; rfl, by omega, by omega, HB.out⟩
theorem begin_any (l : List Sg) (A : Option Addr) (nv cap : Nat) (e : Int) (w : World) (hS : Segs w (.slice A nv cap) l) (hn4 : nv ≤ 4) (hI : ∀ s ∈ l, SgIn s) (hB : ∀ s ∈ l, segB s = true) :
    Calls Try.prog 23 #[.slice A nv cap, .int .u64 e] w fun ee w' => ee = .returned (.bool (beginB l e)) ∧ Below w.heap.size w w' := by
  have HX := Lib.hid (idx_any l A nv cap w.heap.size e (w.alloc (.cells #[.int .u64 e] 22)) (hS.next (balloc (Below.refl _ _) _)) hn4 hI hB (by simp [go_sem]))
  have HC := Lib.hid (show Calls Try.prog 34 #[.slice A nv cap, .func (.func 35) #[] #[.pointer (some ⟨w.heap.size, 0, none⟩)]] (w.alloc (.cells #[.int .u64 e] 22)) fun ee w' => ee = .returned (.bool (beginB l e)) ∧ Below w.heap.size w w' from by
    clear hS hI hB hn4
    go_enter Try.func34, Try.ntmps34
    go_wp2_with fail
    refine HX.out.mono ?_
    rintro e' w2 ⟨i, rfl, hi, h1, h2, hb⟩
    have HB := Lib.hid (bthen (balloc (Below.refl _ w) _) hb)
    clear hb
    go_wp2_with fail
    go_ret
    exact ⟨rfl, HB.out⟩)
  clear hS hI hB hn4
  go_enter Try.func23, Try.ntmps23
  go_wp2_with fail
  refine HC.out.mono ?_
  rintro e' w2 ⟨rfl, hb⟩
  have HB := Lib.hid hb
  clear hb
  go_wp2_with fail
  go_ret
  exact ⟨rfl, HB.out⟩
/-- may an image be? -/
theorem may_any (l : List Sg) (e : Int) (A : Option Addr) (nv cap : Nat) (w : World) (hS : Segs w (.slice A nv cap) l) (hI : ∀ s ∈ l, SgIn s) :
    Calls Try.prog 9 #[.agg #[.int .u64 e, .slice A nv cap]] w fun ee w' => ee = .returned (.bool (mayB l e)) ∧ Below w.heap.size w w' := by
  have HG := Lib.hid (fun (W : World) (hb : Below w.heap.size w W) => esegs_any l A nv cap W (hS.next hb) hI)
  cases h : segsB l with
  | false =>
    rw [h] at HG
    have HE := Lib.hid (show mayB l e = false by unfold mayB; rw [h]; rfl)
    clear h hS hI
    go_enter Try.func9, Try.ntmps9
    go_wp2_with fail
    refine (HG.out _ (balloc (Below.refl _ _) _)).mono ?_
    rintro e' w2 ⟨rfl, hb⟩
    have HB := Lib.hid (bthen (balloc (Below.refl _ w) _) hb)
    clear hb
    go_wp2_with fail
    go_ret
    exact ⟨ret_bool HE.out.symm, HB.out⟩
  | true =>
    have h2 := h
    unfold segsB at h2
    simp only [Bool.and_eq_true, decide_eq_true_eq] at h2
    have hn := hS.len
    have HM := Lib.hid (fun (W : World) (hb : Below w.heap.size w W) => begin_any l A nv cap e W (hS.next hb) (by omega) hI (segs_all h2.2))
    rw [h] at HG
    have HE := Lib.hid (show mayB l e = beginB l e by unfold mayB; rw [h]; rfl)
    clear h h2 hn hS hI
    go_enter Try.func9, Try.ntmps9
    go_wp2_with fail
    refine (HG.out _ (balloc (Below.refl _ _) _)).mono ?_
    rintro e' w2 ⟨rfl, hb⟩
    have HB := Lib.hid (bthen (balloc (Below.refl _ w) _) hb)
    have k0 : w2.cell? ⟨w.heap.size, 0, none⟩ = some (.int .u64 e) := by
      rw [(bcell hb).1 _ _ (by simp)]; simp [go_sem]
    have k1 : w2.cell? ⟨w.heap.size, 1, none⟩ = some (.slice A nv cap) := by
      rw [(bcell hb).1 _ _ (by simp)]; simp [go_sem]
    clear hb
    go_wp2_with fail
    refine (HM.out _ HB.out).mono ?_
    rintro e' w3 ⟨rfl, hb⟩
    have HB := Lib.hid (bthen HB.out hb)
    clear hb k0 k1
    go_wp2_with fail
    go_ret
    exact ⟨ret_bool HE.out.symm, HB.out⟩
end Go.Proofs.Ytpifndpbmjmglaa
namespace Go.Proofs.Ytpifndpbmjmglaa
open Go.RowKit
/-- a machine: registers, where it goes on, memory (a slice), what is to be read, what was written, what it is, the code, the steps -/
structure Mc where
  x : Nat → Int
  pc : Int
  ma : Option Addr
  ml : Nat
  mc : Nat
  inp : ByteArray
  out : ByteArray
  st : Int
  cd : Int
  n : Int
def mtail (k : Mc) : List Value := [.int .u64 k.pc, .slice k.ma k.ml k.mc, .string k.inp, .string k.out, .int .i64 k.st, .int .u64 k.cd, .int .u64 k.n]
def mregs (x : Nat → Int) : List Value := (List.range 32).map (fun i => Value.int .u64 (x i))
def mcells (k : Mc) : Array Value := (mregs k.x ++ mtail k).toArray
theorem mregs_length (x : Nat → Int) : (mregs x).length = 32 := by simp [mregs]
theorem mcells_size (k : Mc) : (mcells k).size = 39 := by simp [mcells, mregs_length, mtail]
theorem mcells_x (k : Mc) (i : Nat) (h : i < 32) : (mcells k)[i]? = some (.int .u64 (k.x i)) := by
  rw [mcells, List.getElem?_toArray, List.getElem?_append_left (by rw [mregs_length]; exact h)]
  simp [mregs, h]
theorem mcells_t (k : Mc) (j : Nat) : (mcells k)[32 + j]? = (mtail k)[j]? := by
  rw [mcells, List.getElem?_toArray, List.getElem?_append_right (by rw [mregs_length]; omega), mregs_length, Nat.add_sub_cancel_left]
theorem mcells_32 (k : Mc) : (mcells k)[32]? = some (.int .u64 k.pc) := mcells_t k 0
theorem mcells_33 (k : Mc) : (mcells k)[33]? = some (.slice k.ma k.ml k.mc) := mcells_t k 1
theorem mcells_34 (k : Mc) : (mcells k)[34]? = some (.string k.inp) := mcells_t k 2
theorem mcells_35 (k : Mc) : (mcells k)[35]? = some (.string k.out) := mcells_t k 3
theorem mcells_36 (k : Mc) : (mcells k)[36]? = some (.int .i64 k.st) := mcells_t k 4
theorem mcells_37 (k : Mc) : (mcells k)[37]? = some (.int .u64 k.cd) := mcells_t k 5
theorem mcells_38 (k : Mc) : (mcells k)[38]? = some (.int .u64 k.n) := mcells_t k 6
theorem mcells_one (k : Mc) : (mcells k).all (·.oneCell') = true := by
  rw [Array.all_eq_true_iff_forall_mem]
  intro v hv
  rw [mcells, List.mem_toArray, List.mem_append] at hv
  rcases hv with hv | hv
  · obtain ⟨i, _, rfl⟩ := List.mem_map.1 hv
    rfl
  · simp only [mtail, List.mem_cons, List.not_mem_nil, or_false] at hv
    rcases hv with rfl | rfl | rfl | rfl | rfl | rfl | rfl <;> rfl
/-- a machine lies in block B -/
def Mach (W : World) (B : Nat) (k : Mc) : Prop := Whole W B 30 (mcells k)
theorem Mach.new (W : World) (k : Mc) : Mach (W.alloc (.cells (mcells k) 30)) W.heap.size k := heap_alloc_new W _
theorem Mach.alloc {W : World} {B : Nat} {k : Mc} (h : Mach W B k) (o : Obj) : Mach (W.alloc o) B k := (Below.heap_alloc W o B h.lt).trans h
theorem Mach.next {W W' : World} {B : Nat} {k : Mc} (h : Mach W B k) (hb : Below W.heap.size W W') : Mach W' B k := (hb.block B h.lt).trans h
theorem Mach.drew {W : World} {B : Nat} {k : Mc} (h : Mach W B k) : Mach W.drew B k := h
theorem Mach.other {W : World} {B : Nat} {k : Mc} (h : Mach W B k) (p : Addr) (v : Value) (hp : B ≠ p.block) : Mach (W.setCell p v) B k := (Below.heap_setCell W p v B hp).trans h
theorem Mach.row {W : World} {B : Nat} {k : Mc} (h : Mach W B k) (k' : Mc) : Mach (W.setRow B (mcells k')) B k' := by
  unfold Mach Whole at h ⊢
  simp [World.setRow, Array.getElem?_modify, h]
theorem Mach.cells {W : World} {B : Nat} {k : Mc} (h : Mach W B k) : (∀ i, i < 32 → W.cell? ⟨B, i, none⟩ = some (.int .u64 (k.x i))) ∧ W.cell? ⟨B, 32, none⟩ = some (.int .u64 k.pc) ∧ W.cell? ⟨B, 33, none⟩ = some (.slice k.ma k.ml k.mc) ∧
    W.cell? ⟨B, 34, none⟩ = some (.string k.inp) ∧ W.cell? ⟨B, 35, none⟩ = some (.string k.out) ∧ W.cell? ⟨B, 36, none⟩ = some (.int .i64 k.st) ∧ W.cell? ⟨B, 37, none⟩ = some (.int .u64 k.cd) ∧ W.cell? ⟨B, 38, none⟩ = some (.int .u64 k.n) ∧ ∀ i, W.frozen? ⟨B, i, none⟩ = false := by
  have hc := fun i => Whole.cell h i
  refine ⟨fun i hi => ?_, ?_, ?_, ?_, ?_, ?_, ?_, ?_, fun i => Whole.free h i⟩
  · rw [hc, mcells_x k i hi]
  · rw [hc, mcells_32]
  · rw [hc, mcells_33]
  · rw [hc, mcells_34]
  · rw [hc, mcells_35]
  · rw [hc, mcells_36]
  · rw [hc, mcells_37]
  · rw [hc, mcells_38]
theorem mach_info (k : Mc) : (Try.prog.info? 30).map (·.size) = some (mcells k).size := by
  rw [mcells_size]; kernel_rfl
theorem store_mach {ops : Array Oper} {rest : List Oper} {o : Oper} {a : Act} {w : World} {Q : Exit → Act → World → Prop} (hgd : o.guard = none) (x y : Operand) (ho : o.op = .store 30 x y)
    (B : Nat) (k' : Mc) (hx : a.eval x = .pointer (some ⟨B, 0, none⟩)) (hy : a.eval y = .agg (mcells k')) (k : Mc) (hM : Mach w B k) (h : wpList Try.prog ops Q rest (a.put o.dst undef) (w.setRow B (mcells k'))) : wpList Try.prog ops Q (o :: rest) a w :=
  wpList_plain hgd fun K hK => wp_store_row _ x y ho B (mcells k') hx hy _ _ hM (mach_info k') (by rw [mcells_size, mcells_size]) (mcells_one k') (hK _ _ h)
theorem results_mach_two {fn : Func} {p q : Tmp} (h : fn.results = #[.cell p 30, .tmp q]) (tmps : Array Value) (w : World) (B : Nat) (k : Mc) (b : Value) (hp : tmps.getD p undef = .pointer (some ⟨B, 0, none⟩)) (hq : tmps.getD q undef = b) (hM : Mach w B k) :
    (results fn tmps).run Try.prog w = .ok (.tuple #[.agg (mcells k), b]) w := by
  have hp' : tmps[p]?.getD undef = .pointer (some ⟨B, 0, none⟩) := by simpa using hp
  have hq' : tmps[q]?.getD undef = b := by simpa using hq
  have hl := run_loadVar_row (P := Try.prog) w B _ 30 _ _ _ hM Try.underlying30 rfl (mach_info k)
  simp [results, h, hp', hq', asAddr, hl]
/-- a new machine of noughts -/
def zeroMc : Mc := ⟨fun _ => 0, 0, none, 0, 0, .empty, .empty, 0, 0, 0⟩
theorem zero_cells : (mcells zeroMc) = #[.int .u64 0, .int .u64 0, .int .u64 0, .int .u64 0, .int .u64 0, .int .u64 0, .int .u64 0, .int .u64 0, .int .u64 0, .int .u64 0, .int .u64 0, .int .u64 0, .int .u64 0, .int .u64 0, .int .u64 0, .int .u64 0, .int .u64 0, .int .u64 0, .int .u64 0, .int .u64 0, .int .u64 0, .int .u64 0, .int .u64 0, .int .u64 0, .int .u64 0, .int .u64 0, .int .u64 0, .int .u64 0, .int .u64 0, .int .u64 0, .int .u64 0, .int .u64 0, .int .u64 0, .slice none 0 0, .string ⟨#[]⟩, .string ⟨#[]⟩, .int .i64 0, .int .u64 0, .int .u64 0] := rfl
/-- a new machine's block -/
theorem alloc_mach {ops : Array Oper} {rest : List Oper} {o : Oper} {a : Act} {w : World} {Q : Exit → Act → World → Prop} (hgd : o.guard = none) (ho : o.op = .alloc 30)
    (h : wpList Try.prog ops Q rest (a.put o.dst (.pointer (some ⟨w.heap.size, 0, none⟩))) (w.alloc (.cells (mcells zeroMc) 30))) : wpList Try.prog ops Q (o :: rest) a w := by
  refine wpList_plain hgd fun K hK => ?_
  rw [zero_cells] at h
  unfold Oper.wp execOp
  simp only [ho]
  go_simp
  exact hK _ _ h
theorem below_row {w W : World} {B : Nat} (hb : Below w.heap.size w W) (cs : Array Value) (h : w.heap.size ≤ B) : Below w.heap.size w (W.setRow B cs) := by
  refine ⟨hb.os, hb.tape, hb.output, ?_, fun b hbb => ?_⟩
  · simpa [World.setRow] using hb.size
  · rw [← hb.block b hbb]
    simp [World.setRow, Array.getElem?_modify, show ¬ B = b by omega]
end Go.Proofs.Ytpifndpbmjmglaa
namespace Go.Proofs.Ytpifndpbmjmglaa
open Go.RowKit
theorem rightNil : M.Right [] := ⟨by simp, by simp, List.Pairwise.nil, by simp, by simp⟩
theorem loadE_snoc : ∀ (l : List Sg) (m : List M.Pg) (g : Sg), loadE m l = 0 → loadE m (l ++ [g]) = layE (loadF m l) g
  | [], m, g, _ => by
    show (if layE m g = 0 then (0 : Int) else layE m g) = layE m g
    by_cases h : layE m g = 0
    · rw [if_pos h, h]
    · rw [if_neg h]
  | a :: l, m, g, h => by
    unfold loadE at h
    split at h
    · rename_i h0
      show (if layE m a = 0 then loadE (layM m a) (l ++ [g]) else layE m a) = layE (if layE m a = 0 then loadF (layM m a) l else []) g
      rw [if_pos h0, if_pos h0]
      exact loadE_snoc l _ g h
    · rename_i h0; exact absurd h h0
theorem loadF_snoc : ∀ (l : List Sg) (m : List M.Pg) (g : Sg), loadE m l = 0 → layE (loadF m l) g = 0 → loadF m (l ++ [g]) = layM (loadF m l) g
  | [], m, g, _, h => by
    have h' : layE m g = 0 := h
    show (if layE m g = 0 then layM m g else []) = layM m g
    rw [if_pos h']
  | a :: l, m, g, h, h1 => by
    unfold loadE at h
    split at h
    · rename_i h0
      have e : loadF m (a :: l) = loadF (layM m a) l := by
        show (if layE m a = 0 then loadF (layM m a) l else []) = _
        rw [if_pos h0]
      rw [e] at h1 ⊢
      show (if layE m a = 0 then loadF (layM m a) (l ++ [g]) else []) = _
      rw [if_pos h0]
      exact loadF_snoc l _ g h h1
    · rename_i h0; exact absurd h h0
theorem loadE_bad : ∀ (l : List Sg) (m : List M.Pg) (g : Sg) (t : List Sg), loadE m l = 0 → layE (loadF m l) g ≠ 0 → loadE m (l ++ g :: t) = layE (loadF m l) g
  | [], m, g, t, _, h => by
    have h' : ¬ layE m g = 0 := h
    show (if layE m g = 0 then loadE (layM m g) t else layE m g) = layE m g
    rw [if_neg h']
  | a :: l, m, g, t, h, h1 => by
    unfold loadE at h
    split at h
    · rename_i h0
      have e : loadF m (a :: l) = loadF (layM m a) l := by
        show (if layE m a = 0 then loadF (layM m a) l else []) = _
        rw [if_pos h0]
      rw [e] at h1 ⊢
      show (if layE m a = 0 then loadE (layM m a) (l ++ g :: t) else layE m a) = _
      rw [if_pos h0]
      exact loadE_bad l _ g t h h1
    · rename_i h0; exact absurd h h0
/-- why there is no machine with an image, or nought -/
def ldE (l : List Sg) (e : Int) : Int := if mayB l e = true then loadE [] l else 1
/-- the machine with an image -/
def machOf (e : Int) (inp : ByteArray) (A : Option Addr) (n c : Nat) : Mc := { zeroMc with pc := e, inp := inp, ma := A, ml := n, mc := c }
/-- what Load comes to -/
def LoadPost (l : List Sg) (e : Int) (inp : ByteArray) (w : World) (r : Ending) (w' : World) : Prop :=
  ∃ k : Mc, r = .returned (.tuple #[.agg (mcells k), .int .i64 (ldE l e)]) ∧ Below w.heap.size w w' ∧ (ldE l e ≠ 0 → k = zeroMc) ∧
    (ldE l e = 0 → ∃ A n c, k = machOf e inp A n c ∧ Pages w' (.slice A n c) (loadF [] l) ∧ Cap (.slice A n c))
theorem may_ok {l : List Sg} {e : Int} (h : mayB l e = true) (hI : ∀ s ∈ l, SgIn s) : ∀ s ∈ l, SgOk s := fun s hs => by
  unfold mayB segsB at h
  simp only [Bool.and_eq_true, decide_eq_true_eq] at h
  exact SgOk.of (segs_all h.1.2 s hs) (hI s hs)
theorem grownBy_setRow (W : World) (B : Nat) (cs : Array Value) : W.grownBy (W.setRow B cs) (some B) :=
  ⟨rfl, rfl, rfl, by simp [World.setRow], fun k _ hk => by simp [World.setRow, Array.getElem?_modify, show ¬ B = k from fun e => hk (by rw [e])]⟩
theorem loadF_right : ∀ (l : List Sg) (m : List M.Pg), M.Right m → (∀ g ∈ l, SgOk g) → M.Right (loadF m l)
  | [], _, h, _ => h
  | g :: l, m, h, hg => by
    unfold loadF
    split
    · exact loadF_right l _ (layM_right h (hg g (by simp))) (fun x hx => hg x (by simp [hx]))
    · exact rightNil
/-- the two blocks of a call -/
theorem two_new (w : World) (cs : Array Value) (t : TypeId) (k : Mc) (W : World) (hW : W = (w.alloc (.cells cs t)).alloc (.cells (mcells k) 30)) :
    W.heap.size = w.heap.size + 2 ∧ Below w.heap.size w W ∧ W.heap[w.heap.size]? = some (.cells cs t (0, 0)) ∧ Mach W (w.heap.size + 1) k := by
  subst hW
  have e := Mach.new (w.alloc (.cells cs t)) k
  rw [World.size_alloc] at e
  exact ⟨by simp, balloc (balloc (Below.refl _ w) _) _, by rw [Lib.alloc_old _ _ _ (by simp)]; exact heap_alloc_new _ _, e⟩
theorem ownsP_row {W : World} {B : Nat} {v : Value} {m : List M.Pg} {N : Nat} {cs : Array Value} (h : OwnsP W (N + 1) v m) (hB : B = N) : Pages (W.setRow B cs) v m := by
  refine (ownsP_kept h (grownBy_setRow W B cs) ?_).pages
  subst hB
  rcases h.2 with ⟨rfl, _⟩ | ⟨g, cap, cur, rfl, hg, _⟩
  · exact .inl rfl
  · refine .inr (fun e => ?_)
    have : g = B := Option.some.inj e
    omega
set_option maxRecDepth 100000 in
set_option maxHeartbeats 4000000 in
theorem eload_any0 (l : List Sg) (e : Int) (A : Option Addr) (nv cap : Nat) (inp : ByteArray) (w : World) (hS : Segs w (.slice A nv cap) l) (hI : ∀ s ∈ l, SgIn s) (hm : mayB l e = false) :
    Calls Try.prog 5 #[.agg #[.int .u64 e, .slice A nv cap], .string inp] w (LoadPost l e inp w) := by
  have HM := Lib.hid (fun (W : World) (hb : Below w.heap.size w W) => may_any l e A nv cap W (hS.next hb) hI)
  rw [hm] at HM
  have HE := Lib.hid (show ldE l e = 1 by unfold ldE; rw [hm]; rfl)
  clear hS hI hm
  go_enter Try.func5, Try.ntmps5
  go_wp2_with (refine alloc_mach rfl rfl ?_)
  obtain ⟨W, hW⟩ : ∃ W, W = ((w.alloc (.cells #[.int .u64 e, .slice A nv cap] 25)).alloc (.cells (mcells zeroMc) 30)) := ⟨_, rfl⟩
  have H2 := Lib.hid (two_new w _ _ _ W hW)
  rw [← hW]
  clear hW
  refine (HM.out _ H2.out.2.1).mono ?_
  rintro r w1 ⟨rfl, hb⟩
  have HZ := Lib.hid (H2.out.2.2.2.next hb)
  have HB := Lib.hid (bthen H2.out.2.1 hb)
  clear hb
  go_wp2_with (refine store_mach rfl _ _ rfl _ zeroMc rfl rfl _ HZ.out ?_)
  refine bodyPost_ret (results_mach_two Try.results5 _ _ _ zeroMc _ rfl rfl (HZ.out.row zeroMc)) rfl ?_
  exact ⟨zeroMc, by rw [HE.out]; rfl, below_row HB.out _ (by omega), fun _ => rfl, fun h => by rw [HE.out] at h; cases h⟩
set_option maxRecDepth 100000 in
set_option maxHeartbeats 4000000 in
theorem eload_any1 (l : List Sg) (e : Int) (A : Option Addr) (nv cap : Nat) (inp : ByteArray) (w : World) (hS : Segs w (.slice A nv cap) l) (hI : ∀ s ∈ l, SgIn s) (hm : mayB l e = true) :
    Calls Try.prog 5 #[.agg #[.int .u64 e, .slice A nv cap], .string inp] w (LoadPost l e inp w) := by
  have HM := Lib.hid (fun (W : World) (hb : Below w.heap.size w W) => may_any l e A nv cap W (hS.next hb) hI)
  rw [hm] at HM
  have HOK := Lib.hid (may_ok hm hI)
  have HE := Lib.hid (show ldE l e = loadE [] l by unfold ldE; rw [hm]; rfl)
  have hn := hS.len
  have HN := Lib.hid hn
  have HS := Lib.hid hS
  have n4 : (nv : Int) ≤ 4 := by
    unfold mayB segsB at hm
    simp only [Bool.and_eq_true, decide_eq_true_eq] at hm
    omega
  clear hS hI hm hn
  go_enter Try.func5, Try.ntmps5
  go_wp2_with (refine alloc_mach rfl rfl ?_)
  obtain ⟨W, hW⟩ : ∃ W, W = ((w.alloc (.cells #[.int .u64 e, .slice A nv cap] 25)).alloc (.cells (mcells zeroMc) 30)) := ⟨_, rfl⟩
  have H2 := Lib.hid (two_new w _ _ _ W hW)
  rw [← hW]
  clear hW
  refine (HM.out _ H2.out.2.1).mono ?_
  rintro r w1 ⟨rfl, hb⟩
  have HZ := Lib.hid (H2.out.2.2.2.next hb)
  have HB := Lib.hid (bthen H2.out.2.1 hb)
  have HX := Lib.hid ((hb.block w.heap.size (Array.getElem?_eq_some_iff.1 H2.out.2.2.1).1).trans H2.out.2.2.1)
  have HSZ := Lib.hid (show w.heap.size + 2 ≤ w1.heap.size by rw [← H2.out.1]; exact hb.size)
  clear hb
  have k0 : w1.cell? ⟨w.heap.size, 0, none⟩ = some (.int .u64 e) := by rw [Lib.cell_of_heap HX.out]; rfl
  have k1 : w1.cell? ⟨w.heap.size, 1, none⟩ = some (.slice A nv cap) := by rw [Lib.cell_of_heap HX.out]; rfl
  go_wp2_with fail
  clear k0 k1
  have HRF := Lib.hid (Below.refl w1.heap.size w1)
  go_loopw [6, 17] (fun mv iv wr => ∃ (i : Nat) (mA : Option Addr) (mn mc : Nat), i ≤ nv ∧ mv = .slice mA mn mc ∧ iv = .int .i64 i ∧ OwnsP wr (w.heap.size + 2) (.slice mA mn mc) (loadF [] (l.take i)) ∧ loadE [] (l.take i) = 0 ∧ Below w1.heap.size w1 wr) (fun _ iv _ => nv - (intOf iv).toNat)
  case atStart => exact ⟨0, none, 0, 0, Nat.zero_le _, rfl, rfl, ⟨rfl, .inl ⟨rfl, rfl⟩⟩, rfl, HRF.out⟩
  case round =>
    obtain ⟨i, mA, mn, mc, hi, rfl, rfl, ho, ht, hbr⟩ := hrel
    have HBR := Lib.hid hbr
    have HO := Lib.hid ho
    have HT := Lib.hid ht
    clear hbr ho ht
    by_cases hlt : i < nv
    · have hil : i < l.length := by have := HN.out; omega
      have hSr := HS.out.next (bthen HB.out HBR.out)
      obtain ⟨b, off, hA, c0, c1, c2, c3⟩ := hSr.at_ hil
      subst hA
      have hR : M.Right (loadF [] (l.take i)) := loadF_right _ _ rightNil (fun g hg => HOK.out g (List.mem_of_mem_take hg))
      have HL := Lib.hid (fun (u : World) (hb : Below wr.heap.size wr u) => lay1_any (w := u) l[i] (HO.out.pages.next hb) hR HO.out.cap (HOK.out _ (List.getElem_mem hil)))
      have HSN := Lib.hid (loadE_snoc (l.take i) [] l[i] HT.out)
      have HSF := Lib.hid (loadF_snoc (l.take i) [] l[i] HT.out)
      have HSB := Lib.hid (loadE_bad (l.take i) [] l[i] (l.drop (i + 1)) HT.out)
      rw [← List.take_succ_eq_append_getElem hil] at HSN HSF
      rw [show l.take i ++ l[i] :: l.drop (i + 1) = l from by rw [← List.drop_eq_getElem_cons hil, List.take_append_drop]] at HSB
      obtain ⟨LE, hLE⟩ : ∃ x, layE (loadF [] (l.take i)) l[i] = x := ⟨_, rfl⟩
      obtain ⟨LM, hLM⟩ : ∃ x, layM (loadF [] (l.take i)) l[i] = x := ⟨_, rfl⟩
      rw [hLE] at HL HSN HSF HSB
      rw [hLM] at HL HSF
      obtain ⟨⟨ga, gp, gd, gz⟩, hg⟩ : ∃ g, l[i] = g := ⟨_, rfl⟩
      rw [hg] at c0 c1 c2 c3 HL
      simp only [sgV] at c0 c1 c2 c3 HL
      clear hLE hLM hg hSr hil hR HO HT
      have HLT := Lib.hid hlt
      have i0 : (0 : Int) ≤ (i : Int) := by omega
      have i1 : (i : Int) < (nv : Int) := by omega
      clear hlt
      go_wp2_with fail
      refine (HL.out _ (balloc (Below.refl _ wr) _)).mono ?_
      rintro r w2 ⟨v2, rfl, ho2, hb2⟩
      have HB2 := Lib.hid (bthen HBR.out (bthen (balloc (Below.refl _ wr) _) hb2))
      have HO2 := Lib.hid (fun h => ownsP_base (ho2 h) (show w.heap.size + 2 ≤ _ by have := HSZ.out; have := HBR.out.size; simp only [World.size_alloc]; omega))
      clear ho2 hb2 c0 c1 c2 c3 HL
      by_cases h0 : LE = 0
      · subst h0
        have HO3 := Lib.hid (HO2.out rfl)
        rw [← HSF.out rfl] at HO3
        obtain ⟨A3, c3, hv3⟩ := HO3.out.pages.slice
        subst hv3
        clear HO2 HSF HSB
        go_wp2_with fail
        go_roundw
        case rel => exact ⟨i + 1, A3, _, c3, HLT.out, rfl, by go_num, HO3.out, HSN.out, HB2.out⟩
        case measure => have := HLT.out; simp [intOf]; omega
      · have e1 : (LE != 0) = true := by simpa using h0
        have HZ2 := Lib.hid (HZ.out.next HB2.out)
        have HE2 := Lib.hid (show ldE l e = LE by rw [HE.out]; exact HSB.out h0)
        have H0 := Lib.hid h0
        have HB3 := Lib.hid (bthen HB.out HB2.out)
        clear h0 HSB HSF HSN HO2
        go_wp2_with (refine store_mach rfl _ _ rfl _ zeroMc rfl rfl _ HZ2.out ?_)
        refine bodyPost_ret (results_mach_two Try.results5 _ _ _ zeroMc _ rfl rfl (HZ2.out.row zeroMc)) rfl ?_
        exact ⟨zeroMc, by rw [HE2.out]; rfl, below_row HB3.out _ (by omega), fun _ => rfl, fun h => absurd (HE2.out.symm.trans h) H0.out⟩
    · have hT : l.take i = l := List.take_of_length_le (by have := HN.out; omega)
      rw [hT] at HO HT
      have HZ2 := Lib.hid (HZ.out.next HBR.out)
      have HB3 := Lib.hid (bthen HB.out HBR.out)
      have hx := (HBR.out.block w.heap.size (Array.getElem?_eq_some_iff.1 HX.out).1).trans HX.out
      have k0 : wr.cell? ⟨w.heap.size, 0, none⟩ = some (.int .u64 e) := by rw [Lib.cell_of_heap hx]; rfl
      have i1 : ¬ (i : Int) < (nv : Int) := by omega
      clear hT hlt hx
      go_wp2_with (refine store_mach rfl _ _ rfl _ (machOf e inp mA mn mc) rfl rfl _ HZ2.out ?_)
      refine bodyPost_ret (results_mach_two Try.results5 _ _ _ (machOf e inp mA mn mc) _ rfl rfl (HZ2.out.row (machOf e inp mA mn mc))) rfl ?_
      refine ⟨machOf e inp mA mn mc, by rw [HE.out, HT.out]; rfl, below_row HB3.out _ (by omega), fun h => absurd (HE.out.trans HT.out) h, fun _ => ⟨mA, mn, mc, rfl, ownsP_row HO.out rfl, HO.out.cap⟩⟩
/-- elf.Load, of every image -/
theorem eload_any (l : List Sg) (e : Int) (A : Option Addr) (nv cap : Nat) (inp : ByteArray) (w : World) (hS : Segs w (.slice A nv cap) l) (hI : ∀ s ∈ l, SgIn s) :
    Calls Try.prog 5 #[.agg #[.int .u64 e, .slice A nv cap], .string inp] w (LoadPost l e inp w) := by
  cases hm : mayB l e with
  | false => exact eload_any0 l e A nv cap inp w hS hI hm
  | true => exact eload_any1 l e A nv cap inp w hS hI hm
end Go.Proofs.Ytpifndpbmjmglaa
namespace Go.Proofs.Ytpifndpbmjmglaa
open Go.RowKit
attribute [local go_sem] Oper.semAt_some
theorem refRight_long (A : Option Addr) (n cap : Nat) (w : World) (hn : 64 < n) :
    Calls Try.prog 26 #[.slice A n cap] w fun e w' => e = .returned (.bool false) ∧ Below w.heap.size w w' := by
  have t1 : decide ((64 : Int) < (n : Int)) = true := by simp; omega
  go_enter Try.func26, Try.ntmps26
  go_wp2_with fail
  go_ret
  exact ⟨rfl, Below.refl _ _⟩
theorem refRight_none (A : Option Addr) (cap : Nat) (w : World) :
    Calls Try.prog 26 #[.slice A 0 cap] w fun e w' => e = .returned (.bool true) ∧ Below w.heap.size w w' := by
  go_enter Try.func26, Try.ntmps26
  go_wp2_with fail
  go_loop [3] (fun i => i = .int .i64 0) (fun _ => 0)
  case atStart => rfl
  case round =>
    subst hrel
    go_wp2_with fail
    go_ret
    exact ⟨rfl, Below.refl _ _⟩
set_option maxRecDepth 100000 in
set_option maxHeartbeats 4000000 in
theorem refRight_some (m : List M.Pg) (b off cap n : Nat) (w : World) (hn : m.length = n) (hl : n ≤ 64) (h0 : ∀ x ∈ m, 0 ≤ x.a) (hP : PagesIn w b off m) :
    Calls Try.prog 26 #[.slice (some ⟨b, off, none⟩) n cap] w fun e w' => e = .returned (.bool (rightB m)) ∧ Below w.heap.size w w' := by
  have HP := Lib.hid hP
  have H0 := Lib.hid h0
  have HN := Lib.hid hn
  have HL := Lib.hid hl
  have hd64 : decide ((64 : Int) < (n : Int)) = false := by simp; omega
  clear hP h0 hn
  go_enter Try.func26, Try.ntmps26
  go_wp2_with fail
  clear hd64
  go_loopw [3] (fun i wr => ∃ i' : Nat, i = .int .i64 i' ∧ i' ≤ n ∧ (∀ j (h : j < m.length), j < i' → okAt m j h = true) ∧ Below w.heap.size w wr) (fun i _ => n - (intOf i).toNat)
  case atStart => exact ⟨0, rfl, by omega, fun j _ h => by omega, Below.refl _ _⟩
  case round =>
    obtain ⟨i, rfl, h1, h2, hb⟩ := hrel
    have H2 := Lib.hid h2
    have HB := Lib.hid hb
    clear h2 hb
    by_cases hlt : i < n
    · have hm : i < m.length := by rw [HN.out]; omega
      obtain ⟨e0, e1, e2⟩ := (HP.out.next HB.out).2 i hm
      obtain ⟨pa, hpa⟩ : ∃ pa, m[i].a = pa := ⟨_, rfl⟩
      obtain ⟨pp, hpp⟩ : ∃ pa, m[i].p = pa := ⟨_, rfl⟩
      obtain ⟨pd, hpd⟩ : ∃ pa, m[i].d = pa := ⟨_, rfl⟩
      have HO := Lib.hid (show M.okPg m[i] = M.okPg ⟨pa, pp, pd⟩ by rw [← hpa, ← hpp, ← hpd])
      rw [hpa] at e0
      rw [hpp] at e1
      rw [hpd] at e2
      have p0 : 0 ≤ pa := hpa ▸ H0.out _ (List.getElem_mem hm)
      have HPA := Lib.hid hpa
      clear hpa hpp hpd
      have hi0 : (0 : Int) ≤ (i : Int) := Int.natCast_nonneg _
      have hi1 : (i : Int) < (n : Int) := by omega
      by_cases k1 : pa % 256 = 0
      · have t1 : (pa % 256 != 0) = false := by simp [k1]
        by_cases k2 : pp < 0
        · have HF := Lib.hid (right_no (m := m) hm (by unfold okAt; rw [HO.out, show M.okPg ⟨pa, pp, pd⟩ = false by simp [M.okPg, M.okPerm]; intros; omega]; rfl))
          go_wp2_with fail
          go_ret
          exact ⟨by rw [HF.out]; rfl, HB.out⟩
        · by_cases k3 : 7 < pp
          · have HF := Lib.hid (right_no (m := m) hm (by unfold okAt; rw [HO.out, show M.okPg ⟨pa, pp, pd⟩ = false by simp [M.okPg, M.okPerm]; intros; omega]; rfl))
            go_wp2_with fail
            go_ret
            exact ⟨by rw [HF.out]; rfl, HB.out⟩
          · by_cases k4 : (pd.size : Int) = 256
            · have t4 : ((pd.size : Int) != 256) = false := by simp [k4]
              have HG := Lib.hid (show M.okPg ⟨pa, pp, pd⟩ = true by simp [M.okPg, M.okPerm, k1]; omega)
              by_cases hz : i = 0
              · have HS := Lib.hid (show okAt m i hm = true by unfold okAt; rw [HO.out, HG.out]; simp [hz])
                have hd0 : decide (0 < i) = false := by simp; omega
                clear hz
                go_wp2_with fail
                have fb := (HP.out.next HB.out).1
                refine wp_region_past (by kernel_rfl) (by kernel_rfl) ?_
                repeat (go_big_quiet_step (fail))
                refine wpQuiet_nil ?_
                rintro _ ⟨⟨W1, hb1⟩, rfl⟩
                clear fb
                have HB1 := Lib.hid (bthen HB.out hb1)
                clear hb1
                go_wp2_with fail
                go_roundw
                case rel => exact ⟨i + 1, by go_num, by omega, fun j h hj => by
                  by_cases e : j = i
                  · subst e; exact HS.out
                  · exact H2.out j h (by omega), HB1.out⟩
                case measure => simp [intOf]; omega
              · have hd0 : decide (0 < i) = true := by simp; omega
                have hm1 : i - 1 < m.length := by omega
                have g0 := ((HP.out.next HB.out).2 (i - 1) hm1).1
                obtain ⟨qa, hqa⟩ : ∃ qa, m[i - 1].a = qa := ⟨_, rfl⟩
                rw [hqa] at g0
                have i1 : IntKind.i64.wrap ((i : Int) - 1) = (i : Int) - 1 := by rw [IntKind.wrap_i64]; have := HL.out; omega
                have i2 : (0 : Int) ≤ (i : Int) - 1 := by omega
                have i3 : (i : Int) - 1 < (n : Int) := by omega
                have i4 : ((i : Int) - 1).toNat = i - 1 := by omega
                by_cases hlt2 : qa < pa
                · have hd2 : decide (pa ≤ qa) = false := by simp; omega
                  have HS := Lib.hid (show okAt m i hm = true by unfold okAt; rw [HO.out, HG.out, hqa, HPA.out]; simp [hlt2])
                  clear hz hqa hlt2
                  go_wp2_with fail
                  have fb := (HP.out.next HB.out).1
                  have f0 := fun p => Past.cell fb e0 p
                  have f1 := fun p => Past.cell fb g0 p
                  refine wp_region_past (by kernel_rfl) (by kernel_rfl) ?_
                  repeat (go_big_quiet_step (fail))
                  refine wpQuiet_nil ?_
                  rintro _ ⟨⟨W1, hb1⟩, rfl⟩
                  clear f0 f1 fb
                  have HB1 := Lib.hid (bthen HB.out hb1)
                  clear hb1
                  go_wp2_with fail
                  go_roundw
                  case rel => exact ⟨i + 1, by go_num, by omega, fun j h hj => by
                    by_cases e : j = i
                    · subst e; exact HS.out
                    · exact H2.out j h (by omega), HB1.out⟩
                  case measure => simp [intOf]; omega
                · have hd2 : decide (pa ≤ qa) = true := by simp; omega
                  have HF := Lib.hid (right_no (m := m) hm (by unfold okAt; rw [HO.out, HG.out, hqa, HPA.out]; simp [hz]; omega))
                  clear hz hqa hlt2
                  go_wp2_with fail
                  have fb := (HP.out.next HB.out).1
                  have f0 := fun p => Past.cell fb e0 p
                  have f1 := fun p => Past.cell fb g0 p
                  refine wp_region_past (by kernel_rfl) (by kernel_rfl) ?_
                  repeat (go_big_quiet_step (fail))
                  refine wpQuiet_nil ?_
                  rintro _ ⟨⟨W1, hb1⟩, rfl⟩
                  clear f0 f1 fb
                  have HB1 := Lib.hid (bthen HB.out hb1)
                  clear hb1
                  go_wp2_with fail
                  go_ret
                  exact ⟨by rw [HF.out]; rfl, HB1.out⟩
            · have t4 : ((pd.size : Int) != 256) = true := by simpa using k4
              have HF := Lib.hid (right_no (m := m) hm (by unfold okAt; rw [HO.out, show M.okPg ⟨pa, pp, pd⟩ = false by simp [M.okPg, M.okPerm]; intros; omega]; rfl))
              go_wp2_with fail
              go_ret
              exact ⟨by rw [HF.out]; rfl, HB.out⟩
      · have t1 : (pa % 256 != 0) = true := by simpa using k1
        have HF := Lib.hid (right_no (m := m) hm (by unfold okAt; rw [HO.out, show M.okPg ⟨pa, pp, pd⟩ = false by simp [M.okPg, M.okPerm]; intros; omega]; rfl))
        go_wp2_with fail
        go_ret
        exact ⟨by rw [HF.out]; rfl, HB.out⟩
    · have hnlt : decide ((i : Int) < (n : Int)) = false := by simp; omega
      have HT := Lib.hid (show rightB m = true by
        unfold rightB
        rw [decide_eq_true_eq]
        exact ⟨by rw [HN.out]; exact HL.out, fun j h => H2.out j h (by have := HN.out; omega)⟩)
      go_wp2_with fail
      go_ret
      exact ⟨by rw [HT.out]; rfl, HB.out⟩
theorem refRight_any {m : List M.Pg} {v : Value} {w : World} (hP : Pages w v m) (h0 : ∀ x ∈ m, 0 ≤ x.a) :
    Calls Try.prog 26 #[v] w fun e w' => e = .returned (.bool (rightB m)) ∧ Below w.heap.size w w' := by
  by_cases hl : m.length ≤ 64
  · rcases hP with ⟨rfl, h⟩ | ⟨_, b, off, cap, rfl, h⟩
    · rw [right_nil]
      rcases h with rfl | ⟨a, cap, rfl⟩
      · exact refRight_none _ _ w
      · exact refRight_none _ _ w
    · exact refRight_some m b off cap _ w rfl hl h0 h
  · have hf : rightB m = false := by unfold rightB; rw [decide_eq_false_iff_not]; exact fun h => hl h.1
    obtain ⟨A, cap, rfl⟩ := hP.slice
    rw [hf]
    exact refRight_long A _ cap w (by omega)
end Go.Proofs.Ytpifndpbmjmglaa
namespace Go.Proofs.Ytpifndpbmjmglaa
open Go.RowKit
attribute [local go_sem] Oper.semAt_some
/-- the page that has a place -/
def atI (m : List M.Pg) (t : Int) : Int := if M.there m (t - t % 256) = true then (M.low m (t - t % 256) : Int) else -1
theorem atI_hit {m : List M.Pg} (hR : M.Right m) {t : Int} {i : Nat} (hi : i < m.length) (h : m[i].a = t - t % 256) : atI m t = i := by
  obtain ⟨h1, h2⟩ := low_at hR hi
  unfold atI
  rw [← h, h1, h2]
  rfl
theorem atI_miss {m : List M.Pg} {t : Int} (h : ∀ j (hj : j < m.length), m[j].a ≠ t - t % 256) : atI m t = -1 := by
  have : M.there m (t - t % 256) = false := by
    cases hc : M.there m (t - t % 256)
    · rfl
    · unfold M.there at hc
      rw [List.any_eq_true] at hc
      obtain ⟨x, hx, e⟩ := hc
      obtain ⟨j, hj, rfl⟩ := List.mem_iff_getElem.1 hx
      exact absurd (by simpa using e) (h j hj)
  unfold atI
  rw [this]
  rfl
theorem refAt_none (A : Option Addr) (cap : Nat) (t : Int) (w : World) :
    Calls Try.prog 27 #[.slice A 0 cap, .int .u64 t] w fun e w' => e = .returned (.int .i64 (-1)) ∧ w = w' := by
  go_enter Try.func27, Try.ntmps27
  go_wp2_with fail
  go_loop [5] (fun i => i = .int .i64 0) (fun _ => 0)
  case atStart => rfl
  case round =>
    subst hrel
    go_wp2_with fail
    go_ret
    exact ⟨rfl, rfl⟩
set_option maxRecDepth 100000 in
set_option maxHeartbeats 4000000 in
theorem refAt_some (m : List M.Pg) (b off cap n : Nat) (t : Int) (w : World) (hn : m.length = n) (hR : M.Right m) (hP : PagesIn w b off m) (t0 : 0 ≤ t) (t1 : t ≤ 18446744073709551615) :
    Calls Try.prog 27 #[.slice (some ⟨b, off, none⟩) n cap, .int .u64 t] w fun e w' => e = .returned (.int .i64 (atI m t)) ∧ w = w' := by
  have HP := Lib.hid hP
  have HR := Lib.hid hR
  have HN := Lib.hid hn
  have hl : n ≤ 64 := by have := hR.len; omega
  clear hP hn hR
  go_enter Try.func27, Try.ntmps27
  go_wp2_with fail
  go_loop [5] (fun i => ∃ i' : Nat, i = .int .i64 i' ∧ i' ≤ n ∧ (∀ j (h : j < m.length), j < i' → m[j].a ≠ t - t % 256)) (fun i => n - (intOf i).toNat)
  case atStart => exact ⟨0, rfl, by omega, fun j _ h => by omega⟩
  case round =>
    obtain ⟨i, rfl, h1, h2⟩ := hrel
    have H2 := Lib.hid h2
    clear h2
    by_cases hlt : i < n
    · have hm : i < m.length := by rw [HN.out]; omega
      obtain ⟨e0, -, -⟩ := HP.out.2 i hm
      obtain ⟨pa, hpa⟩ : ∃ pa, m[i].a = pa := ⟨_, rfl⟩
      have p0 : 0 ≤ pa := hpa ▸ HR.out.ge _ (List.getElem_mem hm)
      have p1 : pa % 256 = 0 := hpa ▸ HR.out.at_mod hm
      rw [hpa] at e0
      have HPA := Lib.hid hpa
      clear hpa
      have hi0 : (0 : Int) ≤ (i : Int) := Int.natCast_nonneg _
      have hi1 : (i : Int) < (n : Int) := by omega
      by_cases k1 : pa = t - t % 256
      · have HF := Lib.hid (atI_hit HR.out hm (HPA.out.trans k1))
        have c1 : pa ≤ t := by omega
        have c2 : IntKind.u64.wrap (t - pa) = t - pa := by rw [IntKind.wrap_u64]; omega
        have c3 : t - pa < 256 := by omega
        clear k1
        go_wp2_with fail
        go_ret
        exact ⟨by rw [HF.out]; rfl, rfl⟩
      · have HS := Lib.hid (fun (j : Nat) (h : j < m.length) (hj : j < i + 1) => (show m[j].a ≠ t - t % 256 from by
          by_cases e : j = i
          · subst e; rw [HPA.out]; exact k1
          · exact H2.out j h (by omega)))
        by_cases c1 : pa ≤ t
        · have c2 : IntKind.u64.wrap (t - pa) = t - pa := by rw [IntKind.wrap_u64]; omega
          have c3 : ¬ (t - pa < 256) := by omega
          clear k1
          go_wp2_with fail
          go_round
          case rel => exact ⟨i + 1, by go_num, by omega, HS.out⟩
          case measure => simp [intOf]; omega
        · clear k1
          go_wp2_with fail
          go_round
          case rel => exact ⟨i + 1, by go_num, by omega, HS.out⟩
          case measure => simp [intOf]; omega
    · have hnlt : decide ((i : Int) < (n : Int)) = false := by simp; omega
      have HT := Lib.hid (atI_miss (m := m) (t := t) fun j h => H2.out j h (by have := HN.out; omega))
      go_wp2_with fail
      go_ret
      exact ⟨by rw [HT.out]; rfl, rfl⟩
theorem refAt_any {m : List M.Pg} {v : Value} {w : World} (t : Int) (hP : Pages w v m) (hR : M.Right m) (t0 : 0 ≤ t) (t1 : t ≤ 18446744073709551615) :
    Calls Try.prog 27 #[v, .int .u64 t] w fun e w' => e = .returned (.int .i64 (atI m t)) ∧ w = w' := by
  rcases hP with ⟨rfl, h⟩ | ⟨_, b, off, cap, rfl, h⟩
  · have e : atI [] t = -1 := by simp [atI, M.there]
    rw [e]
    rcases h with rfl | ⟨a, cap, rfl⟩
    · exact refAt_none _ _ t w
    · exact refAt_none _ _ t w
  · exact refAt_some m b off cap _ t w rfl hR h t0 t1
end Go.Proofs.Ytpifndpbmjmglaa
