/- Package elf: memory with the pages of one segment. -/
import Derived.Test.YtdlbhkdjcegbfaaF25
import Derived.Test.YtdlbhkdjcegbfaaF2
import Derived.Test.YtdlbhkdjcegbfaaP23
import Derived.Deep.RegionWith
import Derived.Deep.Cut
import Derived.Deep.CutRange
namespace Go.Proofs.Ytdlbhkdjcegbfaa
open Go.RowKit

theorem OwnsP.cap {W : World} {base : Nat} {v : Value} {m : List M.Pg} (h : OwnsP W base v m) : Cap v := by
  rcases h.2 with ⟨hv, _⟩ | ⟨g, cap, cur, hv, _, _, h1, h2, _⟩
  · exact ⟨none, 0, 0, hv, Nat.le_refl _, by unfold maxLen; omega⟩
  · exact ⟨_, _, cap, hv, h1, h2⟩
theorem M.Right.wf {m : List M.Pg} (h : M.Right m) : Wf m := ⟨Nat.le_trans h.len (by omega), h.ge, h.le⟩
theorem cut_of {w w1 : World} {a p : Int} {d : ByteArray} {z : Int} {v1 : Value} {K : List M.Pg}
    (ho : OwnsP w1 ((w.alloc (.cells #[.int .u64 a, .int .i64 p, .string d, .int .u64 z] 41)).drew).heap.size v1 K)
    (hb : Below ((w.alloc (.cells #[.int .u64 a, .int .i64 p, .string d, .int .u64 z] 41)).drew).heap.size ((w.alloc (.cells #[.int .u64 a, .int .i64 p, .string d, .int .u64 z] 41)).drew) w1) :
    OwnsP w1 w.heap.size v1 K ∧ Below w.heap.size w w1 ∧ w1.cell? ⟨w.heap.size, 0, none⟩ = some (.int .u64 a) ∧ w1.cell? ⟨w.heap.size, 2, none⟩ = some (.string d) := by
  have hsz : ((w.alloc (.cells #[.int .u64 a, .int .i64 p, .string d, .int .u64 z] 41)).drew).heap.size = w.heap.size + 1 := by
    show (w.alloc _).heap.size = _
    simp
  refine ⟨ownsP_base ho (by omega), bthen ((balloc (Below.refl _ _) _).drew) hb, ?_, ?_⟩
  · rw [(bcell hb).1 _ _ (by omega)]
    show (w.alloc (.cells #[.int .u64 a, .int .i64 p, .string d, .int .u64 z] 41)).cell? ⟨w.heap.size, 0, none⟩ = _
    simp [go_sem]
  · rw [(bcell hb).1 _ _ (by omega)]
    show (w.alloc (.cells #[.int .u64 a, .int .i64 p, .string d, .int .u64 z] 41)).cell? ⟨w.heap.size, 2, none⟩ = _
    simp [go_sem]
set_option maxRecDepth 100000 in
set_option maxHeartbeats 2000000 in
theorem lay1_any {m : List M.Pg} {v : Value} (g : Sg) {w : World} (hP : Pages w v m) (hR : M.Right m) (hc : Cap v) (hg : SgOk g) :
    Calls Try.prog 55 #[v, sgV g] w fun e w' => ∃ v', e = .returned (.tuple #[v', .int .i64 (layE m g)]) ∧ (layE m g = 0 → OwnsP w' w.heap.size v' (layM m g)) ∧ Below w.heap.size w w' := by
  have HM := Lib.hid (fun (W : World) (hb : Below w.heap.size w W) => map_any g.a (sgN g) g.p (hP.next hb) hR.wf (by have := hR.len; omega) hc hg.a0 (by have := hg.a1; omega))
  have hK : M.Right (mapM m g.a (sgN g) g.p) := mapM_right hR hg.a0
  have HF := Lib.hid (fun (W : World) (u : Value) (h : Pages W u (mapM m g.a (sgN g) g.p)) => fill_any g.a g.d h hK.wf (by have := hK.len; omega) hg.a0 (by have := hg.a1; omega) (by have := hg.dz; have := hg.z2; omega))
  have hpg := hg.pages
  obtain ⟨a0, a1, md, p1, p7, p3, z1, z2, dz⟩ := hg
  have HU := Lib.hid (fun W => up_same g.z (by omega) (by omega) W)
  have hq : (upI g.z).tdiv 256 = (sgN g : Int) := by
    rw [Int.tdiv_eq_ediv_of_nonneg (by unfold upI; omega)]
    unfold sgN
    have : 0 ≤ upI g.z / 256 := by unfold upI; omega
    omega
  have hw1 : IntKind.u64.wrap (sgN g : Int) = (sgN g : Int) := by rw [IntKind.wrap_u64]; omega
  have hw2 : IntKind.i64.wrap (sgN g : Int) = (sgN g : Int) := by rw [IntKind.wrap_i64]; omega
  have HE := Lib.hid (show layE m g = if mapErr m g.a (sgN g) g.p = 0 then fillErr (mapM m g.a (sgN g) g.p) g.a g.d.size else mapErr m g.a (sgN g) g.p from rfl)
  have HV := Lib.hid (show layM m g = fillM (mapM m g.a (sgN g) g.p) g.a g.d from rfl)
  have HB0 := Lib.hid (((balloc (Below.refl w.heap.size w) (.cells #[.int .u64 g.a, .int .i64 g.p, .string g.d, .int .u64 g.z] 41)).drew))
  obtain ⟨a, p, d, z⟩ := g
  simp only at HM HF HU hq hw1 hw2 HE HV HB0
  obtain ⟨E, hE⟩ : ∃ E, layE m ⟨a, p, d, z⟩ = E := ⟨_, rfl⟩
  obtain ⟨L, hL⟩ : ∃ E, layM m ⟨a, p, d, z⟩ = E := ⟨_, rfl⟩
  rw [hE] at HE ⊢
  rw [hL] at HV ⊢
  obtain ⟨N, hN⟩ : ∃ N, sgN ⟨a, p, d, z⟩ = N := ⟨_, rfl⟩
  rw [hN] at HM HF hq hw1 hw2 HE HV
  obtain ⟨K, hKK⟩ : ∃ K, mapM m a N p = K := ⟨_, rfl⟩
  obtain ⟨er, her⟩ : ∃ E, mapErr m a N p = E := ⟨_, rfl⟩
  rw [hKK] at HM HF HE HV
  rw [her] at HM HE
  obtain ⟨U, hU⟩ : ∃ U, upI z = U := ⟨_, rfl⟩
  rw [hU] at HU hq
  obtain ⟨A, nv, cap, rfl, -, -⟩ := hc
  clear hP hR hK hpg a0 a1 md p1 p7 p3 z1 z2 dz hE hL hN hKK her hU
  unfold sgV
  simp only
  go_enter Try.func55, Try.ntmps55
  go_upto_region 1 with fail
  go_cut [0, 6] from 8 to 20 (fun v0 v6 wx => v6 = .int .i64 er ∧ OwnsP wx w.heap.size v0 K ∧ Below w.heap.size w wx ∧ wx.cell? ⟨w.heap.size, 0, none⟩ = some (.int .u64 a) ∧ wx.cell? ⟨w.heap.size, 2, none⟩ = some (.string d))
  case first =>
    go_region_with (first | (go_at_call 102; refine (HU.out _).mono ?_; rintro e w' ⟨rfl, rfl⟩) | (go_at_call 62; refine (HM.out _ HB0.out).mono ?_; rintro e w1 ⟨v1, rfl, ho1, hb1⟩; have HR := Lib.hid (cut_of ho1 hb1); clear ho1 hb1))
    all_goals
      go_wp2_with fail
      go_meet
      case rel => exact ⟨rfl, HR.out⟩
  case rest =>
    obtain ⟨rfl, ho, hb, k0, k2⟩ := hcut
    obtain ⟨A1, c1, hv1⟩ := ho.pages.slice
    have HO := Lib.hid ho
    have HB := Lib.hid hb
    by_cases h0 : er = 0
    · subst h0
      have HF1 := Lib.hid (HF.out wc _ ho.pages)
      have HE1 := Lib.hid (show E = fillErr K a d.size by rw [HE.out, if_pos rfl])
      subst hv1
      clear ho hb HF HE HM HU
      go_wp2_with fail
      refine HF1.out.mono ?_
      rintro r w2 ⟨v2, rfl, ho2, hb2⟩
      have HO2 := Lib.hid (ownsP_base ho2 HB.out.size)
      have HB2 := Lib.hid (bthen HB.out hb2)
      clear ho2 hb2
      go_wp2_with fail
      go_ret2
      exact ⟨v2, by rw [HE1.out]; rfl, fun _ => by rw [HV.out]; exact HO2.out, HB2.out⟩
    · have e1 : (er != 0) = true := by simpa using h0
      have HE1 := Lib.hid (show E = er by rw [HE.out, if_neg h0])
      have H0 := Lib.hid h0
      subst hv1
      clear ho hb HF HE HM HU h0
      go_wp2_with fail
      go_ret2
      exact ⟨_, by rw [HE1.out]; rfl, fun h => absurd (HE1.out.symm.trans h) H0.out, HB.out⟩
end Go.Proofs.Ytdlbhkdjcegbfaa
