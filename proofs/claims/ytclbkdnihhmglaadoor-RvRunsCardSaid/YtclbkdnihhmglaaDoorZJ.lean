/- The reference's Load, of any number of bytes, asking for anything. Memory with bytes laid into it one by one. Nothing of the program. -/
import Derived.Test.YtclbkdnihhmglaaDoorZI
namespace Go.Proofs.YtclbkdnihhmglaaDoor
open Go.RowKit

attribute [local go_sem] Oper.semAt_some

/-- is there a page at a place, and does it grant perm? -/
def placeB (m : List M.Pg) (t perm : Int) : Bool := decide (t ≤ 18446744073709551615) && grantB m (t - t % 256) perm
theorem all_places {m : List M.Pg} {a perm : Int} {N : Nat} (a0 : 0 ≤ a) (h1 : 1 ≤ N) : allGrantB m a N perm = true ↔ ∀ j : Nat, j < N → placeB m (a + j) perm = true := by
  simp only [allGrantB, placeB, Bool.and_eq_true, Bool.not_eq_true', List.all_eq_true, decide_eq_true_eq]
  constructor
  · rintro ⟨hb, hg⟩ j hj
    have hb' : a + ((N : Int) - 1) ≤ 18446744073709551615 := by simp [beyondB] at hb; omega
    obtain ⟨s, hs, e, _, _⟩ := M.strs_has a0 (n := (N : Int)) (a + j) (by omega) (by omega)
    have h := hg s hs
    rw [e] at h
    exact ⟨by omega, h⟩
  · intro h
    have hl := (h (N - 1) (by omega)).1
    refine ⟨by simp [beyondB]; omega, fun s hs => ?_⟩
    obtain ⟨ho, h2, h3⟩ := M.strs_ok a0 (by omega) s hs
    obtain ⟨j, hj⟩ := Int.eq_ofNat_of_zero_le (show 0 ≤ s.pg + s.f - a by omega)
    have k1 := ho.n1
    have k2 := ho.f0
    have k3 := ho.fn
    have k4 := ho.md
    have h4 := (h j (by omega)).2
    have e : a + (j : Int) - (a + j) % 256 = s.pg := by omega
    rw [e] at h4
    exact h4
theorem num_all {m : List M.Pg} {a perm : Int} {N : Nat} (hr : rightB m = true) (a0 : 0 ≤ a) (h1 : 1 ≤ N) (h8 : N ≤ 8) :
    ((∀ j : Nat, j < N → placeB m (a + j) perm = true) → numErr m a N perm = 0 ∧ loadV m a N perm = M.num (M.bytesOf m a N)) ∧
    ((∃ j : Nat, j < N ∧ placeB m (a + j) perm = false) → numErr m a N perm = 6 ∧ loadV m a N perm = 0) := by
  constructor
  · intro h
    have e : numErr m a N perm = 0 := by simp [numErr, hr, (all_places a0 h1).2 h]; omega
    exact ⟨e, by unfold loadV; rw [if_pos e]; simp⟩
  · rintro ⟨j, hj, h⟩
    have e : numErr m a N perm = 6 := by
      have hf : allGrantB m a N perm = false := by
        cases hc : allGrantB m a N perm
        · rfl
        · have := (all_places a0 h1).1 hc j hj
          rw [h] at this; cases this
      simp [numErr, hr, hf]; omega
    exact ⟨e, by unfold loadV; rw [if_neg (by omega)]⟩
/-- the page that is there, as it lies -/
theorem there_row {w : World} {m : List M.Pg} {A : Option Addr} {nv cap : Nat} (hP : Pages w (.slice A nv cap) m) (hR : M.Right m) {t : Int} (ht : M.there m t = true) :
    ∃ b off, A = some ⟨b, off, none⟩ ∧ PagesIn w b off m ∧ ∃ h : M.low m t < m.length, m[M.low m t].a = t := by
  have hh := (M.there_iff hR.up t).1 ht
  rcases hP with ⟨rfl, _⟩ | ⟨_, b, off, c, e, h⟩
  · obtain ⟨h, _⟩ := hh
    simp at h
  · cases e
    exact ⟨b, off, rfl, h, hh⟩
theorem pow256_le {k : Nat} (h : k ≤ 7) : (256 : Int) ^ k ≤ 72057594037927936 ∧ 0 < (256 : Int) ^ k := by
  have : ∀ q : Nat, q < 8 → (256 : Int) ^ q ≤ 72057594037927936 ∧ 0 < (256 : Int) ^ q := by decide +kernel
  exact this k (by omega)
theorem step_num (m : List M.Pg) (a : Int) {k : Nat} (hk : k ≤ 7) {z : Nat} (hz : (M.byteAt m (a + k)).toNat = z) :
    IntKind.u64.wrap ((256 : Int) ^ k * (z : Int)) = (256 : Int) ^ k * (z : Int) ∧ IntKind.u64.wrap (M.num (M.bytesOf m a k) + (256 : Int) ^ k * (z : Int)) = M.num (M.bytesOf m a (k + 1)) ∧ IntKind.u64.wrap ((256 : Int) ^ k) = (256 : Int) ^ k := by
  obtain ⟨p1, p2⟩ := pow256_le hk
  have hz1 : z < 256 := by rw [← hz]; exact (M.byteAt m (a + k)).toNat_lt
  have h0 := M.num_nonneg (M.bytesOf m a k)
  have h1 := M.num_lt (M.bytesOf m a k)
  rw [M.bytesOf_length] at h1
  have e : M.num (M.bytesOf m a (k + 1)) = M.num (M.bytesOf m a k) + (256 : Int) ^ k * (z : Int) := by
    rw [M.bytesOf_add m k 1 a]
    show M.num (M.bytesOf m a k ++ [M.byteAt m (a + k)]) = _
    rw [M.num_snoc, M.bytesOf_length, hz, Int.mul_comm]
  have hp : (256 : Int) ^ k * (z : Int) ≤ (256 : Int) ^ k * 255 := Int.mul_le_mul_of_nonneg_left (by omega) (by omega)
  have hp0 : 0 ≤ (256 : Int) ^ k * (z : Int) := Int.mul_nonneg (by omega) (by omega)
  rw [e]
  generalize (256 : Int) ^ k * (z : Int) = P at *
  generalize (256 : Int) ^ k = F at *
  refine ⟨?_, ?_, ?_⟩ <;> rw [IntKind.wrap_u64] <;> omega

set_option maxRecDepth 100000 in
set_option maxHeartbeats 4000000 in
theorem refLoad_any {m : List M.Pg} {v : Value} (a n perm : Int) {w : World} (hP : Pages w v m) (hw : Wf m) (a0 : 0 ≤ a) (a1 : a ≤ 18446744073709551615) (n0 : -9223372036854775808 ≤ n) (n1 : n ≤ 9223372036854775807) :
    Calls Tryd.prog 25 #[v, .int .u64 a, .int .i64 n, .int .i64 perm] w fun e w' => e = .returned (.tuple #[.int .u64 (loadV m a n perm), .int .i64 (numErr m a n perm)]) ∧ Below w.heap.size w w' := by
  have HQ := Lib.hid (refRight_any hP hw.a0)
  obtain ⟨A, cap, hv⟩ := hP.slice
  obtain ⟨nv, hnv⟩ : ∃ n, m.length = n := ⟨_, rfl⟩
  rw [hnv] at hv
  subst hv
  by_cases hbad : n < 1 ∨ 8 < n ∨ rightB m = false
  · have HE : numErr m a n perm = 1 := by simp [numErr, hbad]
    have HV : loadV m a n perm = 0 := by simp [loadV, HE]
    rw [HE, HV]
    obtain ⟨r, hr⟩ : ∃ r, rightB m = r := ⟨_, rfl⟩
    rw [hr] at HQ hbad
    clear hP hw HE HV hnv hr
    by_cases c1 : n < 1
    · have t1 : decide (n < 1) = true := by simpa using c1
      clear hbad
      go_enter Tryd.func25, Tryd.ntmps25
      go_wp2_with fail
      refine HQ.out.mono ?_
      rintro e w1 ⟨rfl, hb1⟩
      have HB1 := Lib.hid hb1
      clear hb1
      go_wp2_with fail
      go_ret2
      exact ⟨rfl, HB1.out⟩
    · have t1 : decide (n < 1) = false := by simpa using c1
      by_cases c2 : 8 < n
      · have t2 : decide (8 < n) = true := by simpa using c2
        clear hbad
        go_enter Tryd.func25, Tryd.ntmps25
        go_wp2_with fail
        refine HQ.out.mono ?_
        rintro e w1 ⟨rfl, hb1⟩
        have HB1 := Lib.hid hb1
        clear hb1
        go_wp2_with fail
        go_ret2
        exact ⟨rfl, HB1.out⟩
      · have t2 : decide (8 < n) = false := by simpa using c2
        obtain rfl : r = false := by rcases hbad with h | h | h; omega; omega; exact h
        clear hbad
        go_enter Tryd.func25, Tryd.ntmps25
        go_wp2_with fail
        refine HQ.out.mono ?_
        rintro e w1 ⟨rfl, hb1⟩
        have HB1 := Lib.hid hb1
        clear hb1
        go_wp2_with fail
        go_ret2
        exact ⟨rfl, HB1.out⟩
  · have hr : rightB m = true := by cases h : rightB m; exact absurd (.inr (.inr h)) hbad; rfl
    have b1 : 1 ≤ n := by omega
    have b8 : n ≤ 8 := by omega
    clear hbad
    have hR := Right.of hr hw.a0 hw.a1
    obtain ⟨N, rfl⟩ := Int.eq_ofNat_of_zero_le (show 0 ≤ n by omega)
    obtain ⟨g0, g6⟩ := num_all (perm := perm) hr a0 (show 1 ≤ N by omega) (show N ≤ 8 by omega)
    have HA := Lib.hid (fun (W : World) (hb : Below w.heap.size w W) (t : Int) (t0 : 0 ≤ t) (t1 : t ≤ 18446744073709551615) => refAt_any t (hP.next hb) hR t0 t1)
    have HI := Lib.hid (fun (t : Int) (ht : M.there m t = true) => there_row hP hR ht)
    have HS := Lib.hid (fun (i : Nat) (hi : i < m.length) => hR.size hi)
    have HN := Lib.hid hnv
    rw [hr] at HQ
    obtain ⟨E, hE⟩ : ∃ E, numErr m a N perm = E := ⟨_, rfl⟩
    obtain ⟨V, hV⟩ : ∃ V, loadV m a N perm = V := ⟨_, rfl⟩
    rw [hE, hV] at g0 g6 ⊢
    have G0 := Lib.hid g0
    have G6 := Lib.hid g6
    have t1 : decide ((N : Int) < 1) = false := by simp; omega
    have t2 : decide (8 < (N : Int)) = false := by simp; omega
    clear hP hw hR hr hnv hE hV g0 g6
    go_enter Tryd.func25, Tryd.ntmps25
    go_wp2_with fail
    refine HQ.out.mono ?_
    rintro e w1 ⟨rfl, hb1⟩
    have HB1 := Lib.hid hb1
    clear hb1
    go_wp2_with fail
    clear t1 t2
    go_loopw [11, 12, 13] (fun x f i wr => ∃ k : Nat, k ≤ N ∧ i = .int .i64 k ∧ x = .int .u64 (M.num (M.bytesOf m a k)) ∧ f = .int .u64 (IntKind.u64.wrap ((256 : Int) ^ k)) ∧ (∀ j : Nat, j < k → placeB m (a + j) perm = true) ∧ Below w.heap.size w wr) (fun _ _ i _ => N - (intOf i).toNat)
    case atStart => exact ⟨0, Nat.zero_le _, rfl, rfl, rfl, fun j h => absurd h (Nat.not_lt_zero _), HB1.out⟩
    case round =>
      obtain ⟨k, hk, rfl, rfl, rfl, hpl, hb⟩ := hrel
      have HB := Lib.hid hb
      have HPL := Lib.hid hpl
      clear hb hpl
      by_cases hlt : k < N
      · obtain ⟨X, hX⟩ : ∃ X, M.num (M.bytesOf m a k) = X := ⟨_, rfl⟩
        obtain ⟨F, hF⟩ : ∃ F, (256 : Int) ^ k = F := ⟨_, rfl⟩
        have wk : IntKind.u64.wrap (k : Int) = (k : Int) := by rw [IntKind.wrap_u64]; omega
        have lk : ((k : Int) < (N : Int)) := by omega
        by_cases hov : a + (k : Int) ≤ 18446744073709551615
        · have wt : IntKind.u64.wrap (a + (k : Int)) = a + (k : Int) := by rw [IntKind.wrap_u64]; omega
          have lt : decide (a + (k : Int) < a) = false := by simp; omega
          have HC := Lib.hid (HA.out wr HB.out (a + k) (by omega) hov)
          cases hc : M.there m (a + (k : Int) - (a + (k : Int)) % 256)
          · have hA : atI m (a + k) = -1 := by unfold atI; rw [hc]; rfl
            rw [hA] at HC
            have HF := Lib.hid (G6.out ⟨k, hlt, by unfold placeB grantB; rw [hc]; simp⟩)
            rw [hX, hF]
            clear hX hF hA hc
            go_wp2_with fail
            refine HC.out.mono ?_
            rintro e w2 ⟨rfl, rfl⟩
            go_wp2_with fail
            go_ret2
            exact ⟨by rw [HF.out.1, HF.out.2]; rfl, HB.out⟩
          · obtain ⟨b, off, rfl, hPI, hi, he⟩ := HI.out _ hc
            have hA : atI m (a + k) = M.low m (a + (k : Int) - (a + (k : Int)) % 256) := by unfold atI; rw [hc]; rfl
            rw [hA] at HC
            have hgr : placeB m (a + k) perm = okBits (m[M.low m (a + (k : Int) - (a + (k : Int)) % 256)]).p perm := by
              unfold placeB grantB
              rw [hc, List.getElem?_eq_getElem hi]
              simp [hov]
            have hby : M.byteAt m (a + k) = (m[M.low m (a + (k : Int) - (a + (k : Int)) % 256)]).d.data.toList.getD ((a + (k : Int)) % 256).toNat 0 := by
              unfold M.byteAt M.dataAt
              rw [List.getElem?_eq_getElem hi]
              rfl
            have hsz := HS.out _ hi
            obtain ⟨i, hie⟩ : ∃ i, M.low m (a + (k : Int) - (a + (k : Int)) % 256) = i := ⟨_, rfl⟩
            have G := Lib.hid (fun W => refGrants_any m[M.low m (a + (k : Int) - (a + (k : Int)) % 256)] perm W)
            simp only [hie] at hi he hgr hby hsz G HC
            have HPI := Lib.hid hPI
            have cells := (fun (W : World) (hb : Below w.heap.size w W) => (HPI.out.next hb).2 i hi)
            have HLT := Lib.hid hPI.1
            obtain ⟨pa, hpa⟩ : ∃ x, (m[i]).a = x := ⟨_, rfl⟩
            obtain ⟨pp, hpp⟩ : ∃ x, (m[i]).p = x := ⟨_, rfl⟩
            obtain ⟨pd, hpd⟩ : ∃ x, (m[i]).d = x := ⟨_, rfl⟩
            simp only [hpa, hpp, hpd] at cells G hby hsz he hgr
            have HCE := Lib.hid cells
            have il : i < nv := by have := HN.out; omega
            have i0 : (0 : Int) ≤ (i : Int) := Int.natCast_nonneg _
            have i1 : (i : Int) < (nv : Int) := by omega
            have i2 : decide ((i : Int) < 0) = false := by simp
            have HGR := Lib.hid hgr
            have HBY := Lib.hid hby
            have HE := Lib.hid he
            have HSZ := Lib.hid hsz
            have HX := Lib.hid hX
            have HF := Lib.hid hF
            obtain ⟨e0, e1, e2⟩ := HCE.out _ HB.out
            clear hPI cells hpa hpp hpd hgr hby he hsz hA hie hc
            cases hq : okBits pp perm
            · have HQ6 := Lib.hid (G6.out ⟨k, hlt, by rw [HGR.out, hq]⟩)
              rw [hq] at G
              rw [hX, hF]
              clear hq hX hF
              go_wp2_with fail
              refine HC.out.mono ?_
              rintro e w2 ⟨rfl, rfl⟩
              go_wp2_with fail
              refine (G.out _).mono ?_
              rintro e w3 ⟨rfl, hb3⟩
              have HB3 := Lib.hid (bthen HB.out hb3)
              clear hb3
              go_wp2_with fail
              go_ret2
              exact ⟨by rw [HQ6.out.1, HQ6.out.2]; rfl, HB3.out⟩
            · rw [hq] at G
              have HNX := Lib.hid (fun (j : Nat) (hj : j < k + 1) => (show placeB m (a + j) perm = true from by
                by_cases e : j = k
                · subst e; rw [HGR.out]; exact hq
                · exact HPL.out j (by omega)))
              have hpa1 := HE.out
              obtain ⟨q, hqe⟩ := Int.eq_ofNat_of_zero_le (show 0 ≤ (a + (k : Int)) % 256 by omega)
              have hq1 : q < pd.size := by rw [HSZ.out]; omega
              have hq2 : IntKind.u64.wrap (a + (k : Int) - pa) = (q : Int) := by rw [IntKind.wrap_u64]; omega
              have hZ : (M.byteAt m (a + k)).toNat = (pd[q]).toNat := by
                rw [HBY.out, hqe, show ((q : Int)).toNat = q by omega, List.getD_eq_getElem?_getD, List.getElem?_eq_getElem (by simpa using hq1)]
                rfl
              obtain ⟨s1, s2, s3⟩ := step_num m a (k := k) (by omega) hZ
              have hpn : (256 : Int) ^ (k + 1) = (256 : Int) ^ k * 256 := Int.pow_succ _ _
              obtain ⟨X', hX'⟩ : ∃ X', M.num (M.bytesOf m a (k + 1)) = X' := ⟨_, rfl⟩
              obtain ⟨F', hF'⟩ : ∃ F', IntKind.u64.wrap ((256 : Int) ^ (k + 1)) = F' := ⟨_, rfl⟩
              have s4 := hF'
              rw [hpn] at s4
              rw [hX, s3, hF]
              rw [hX, hF, hX'] at s2
              rw [hF] at s1 s3 s4
              have HX' := Lib.hid hX'
              have HF' := Lib.hid hF'
              have z1 := (pd[q]).toNat_lt
              obtain ⟨Z, hZe⟩ : ∃ Z, pd[q] = Z := ⟨_, rfl⟩
              rw [hZe] at z1 s1 s2
              have w2 : IntKind.u64.wrap (Z.toNat : Int) = (Z.toNat : Int) := by rw [IntKind.wrap_u64]; omega
              obtain ⟨P, hP⟩ : ∃ P, F * (Z.toNat : Int) = P := ⟨_, rfl⟩
              rw [hP] at s1 s2
              clear hq hX hF hX' hF' hZ hpn hqe hpa1 s3
              go_wp2_with fail
              refine HC.out.mono ?_
              rintro e w2 ⟨rfl, rfl⟩
              go_wp2_with fail
              refine (G.out _).mono ?_
              rintro e w3 ⟨rfl, hb3⟩
              have HB3 := Lib.hid (bthen HB.out hb3)
              clear hb3 e0 e1 e2
              obtain ⟨e0, -, e2⟩ := HCE.out _ HB3.out
              have fb : b < w3.heap.size := by have := HLT.out; have := HB3.out.size; omega
              go_wp2_with fail
              have f0 := fun p => Past.cell fb e0 p
              have f1 := fun p => Past.cell fb e2 p
              refine wp_region_past (by kernel_rfl) (by kernel_rfl) ?_
              repeat (go_big_quiet_step (fail))
              refine wpQuiet_nil ?_
              rintro _ ⟨⟨W1, hb1⟩, rfl⟩
              clear f0 f1 fb e0 e2
              have HB4 := Lib.hid (bthen HB3.out hb1)
              clear hb1
              go_wp2_with fail
              go_roundw
              case rel => exact ⟨k + 1, by omega, by go_num, by rw [HX'.out], by rw [HF'.out], HNX.out, HB4.out⟩
              case measure => simp [intOf]; omega
        · have HQ6 := Lib.hid (G6.out ⟨k, hlt, by unfold placeB; simp [hov]⟩)
          have wt : IntKind.u64.wrap (a + (k : Int)) = a + (k : Int) - 18446744073709551616 := by rw [IntKind.wrap_u64]; omega
          have lt : decide (a + (k : Int) - 18446744073709551616 < a) = true := by simp; omega
          have HC := Lib.hid (HA.out wr HB.out (a + k - 18446744073709551616) (by omega) (by omega))
          obtain ⟨z, hz⟩ : ∃ z, atI m (a + k - 18446744073709551616) = z := ⟨_, rfl⟩
          rw [hz] at HC
          rw [hX, hF]
          clear hz hX hF
          by_cases hz0 : z < 0
          all_goals
            go_wp2_with fail
            refine HC.out.mono ?_
            rintro e w2 ⟨rfl, rfl⟩
            go_wp2_with fail
            go_ret2
            exact ⟨by rw [HQ6.out.1, HQ6.out.2]; rfl, HB.out⟩
      · obtain rfl : k = N := by omega
        have HQ0 := Lib.hid (G0.out HPL.out)
        rw [← HQ0.out.2]
        go_wp2_with fail
        go_ret2
        exact ⟨by rw [HQ0.out.1]; rfl, HB.out⟩
end Go.Proofs.YtclbkdnihhmglaaDoor

namespace Go.Proofs.YtclbkdnihhmglaaDoor
open Go.RowKit

theorem over_get (x : M.Pg) (a : Int) (l : List UInt8) {j : Nat} (hj : j < 256) : (over x a l).d.data.toList.getD j 0 = if a ≤ x.a + j ∧ x.a + j < a + l.length then l.getD (x.a + j - a).toNat 0 else x.d.data.toList.getD j 0 := by
  have : (over x a l).d.data.toList = (List.range 256).map (fun (j : Nat) => if a ≤ x.a + j ∧ x.a + j < a + l.length then l.getD (x.a + j - a).toNat 0 else x.d.data.toList.getD j 0) := by simp [over]
  rw [this, List.getD_eq_getElem?_getD, List.getElem?_map, List.getElem?_range hj]
  rfl
theorem over_snoc (x : M.Pg) (a : Int) (l : List UInt8) (b : UInt8) : over (over x a l) (a + l.length) [b] = over x a (l ++ [b]) := by
  have e : ∀ (d : ByteArray), over { x with d := d } (a + l.length) [b] = { x with d := ⟨((List.range 256).map (fun (j : Nat) => if a + l.length ≤ x.a + j ∧ x.a + j < a + l.length + ([b] : List UInt8).length then ([b] : List UInt8).getD (x.a + j - (a + l.length)).toNat 0 else d.data.toList.getD j 0)).toArray⟩ } := fun d => rfl
  have e1 : over (over x a l) (a + l.length) [b] = _ := e (over x a l).d
  rw [e1]
  unfold over
  congr 3
  apply List.map_congr_left
  intro j hj
  have hj' := List.mem_range.1 hj
  have := over_get x a l hj'
  unfold over at this
  rw [this, List.length_append, List.length_singleton]
  by_cases h1 : a + l.length ≤ x.a + j ∧ x.a + j < a + l.length + (1 : Nat)
  · rw [if_pos h1, if_pos (by omega), show (x.a + (j : Int) - (a + l.length)).toNat = 0 by omega, show (x.a + (j : Int) - a).toNat = l.length by omega]
    simp
  · rw [if_neg h1]
    by_cases h2 : a ≤ x.a + j ∧ x.a + j < a + l.length
    · rw [if_pos h2, if_pos (by omega), List.getD_eq_getElem?_getD, List.getD_eq_getElem?_getD, List.getElem?_append_left (by omega)]
    · rw [if_neg h2, if_neg (by omega)]
theorem laid_snoc (m : List M.Pg) (a : Int) (l : List UInt8) (b : UInt8) : laid (laid m a l) (a + l.length) [b] = laid m a (l ++ [b]) := by
  unfold laid
  rw [List.map_map]
  exact List.map_congr_left (fun x _ => over_snoc x a l b)
theorem laid_none {m : List M.Pg} (hR : M.Right m) (a : Int) : laid m a [] = m := by
  unfold laid
  conv => rhs; rw [← List.map_id m]
  apply List.map_congr_left
  intro x hx
  obtain ⟨i, hi, rfl⟩ := List.mem_iff_getElem.1 hx
  exact over_out (hR.size hi) (fun j _ h => by simp at h; omega)
/-- one byte laid: one page's one byte -/
theorem laid_one {m : List M.Pg} (hR : M.Right m) {t : Int} (ht : M.there m (t - t % 256) = true) {i : Nat} (hi : i < m.length) (he : M.low m (t - t % 256) = i) (b : UInt8) :
    laid m t [b] = m.set i ⟨(m[i]).a, (m[i]).p, ⟨(m[i]).d.data.set! (t % 256).toNat b⟩⟩ := by
  obtain ⟨h1, h2⟩ := (M.there_iff hR.up _).1 ht
  subst he
  apply List.ext_getElem?
  intro k
  rw [laid_get]
  by_cases hk : k < m.length
  · rw [List.getElem?_eq_getElem hk]
    show some (over m[k] t [b]) = _
    by_cases e : k = M.low m (t - t % 256)
    · subst e
      rw [List.getElem?_set_self hk]
      congr 1
      have hs := hR.size hk
      obtain ⟨x, hx⟩ : ∃ x, m[M.low m (t - t % 256)] = x := ⟨_, rfl⟩
      rw [hx] at hs h2 ⊢
      obtain ⟨xa, xp, ⟨xd⟩⟩ := x
      have hxd : xd.size = 256 := hs
      simp only at h2
      unfold over
      congr 2
      apply Array.ext'
      apply List.ext_getElem?
      intro j
      by_cases hj : j < 256
      · rw [show (((List.range 256).map (fun (j : Nat) => if t ≤ xa + j ∧ xa + j < t + ([b] : List UInt8).length then ([b] : List UInt8).getD (xa + j - t).toNat 0 else xd.toList.getD j 0)).toArray.toList)[j]? = some (if t ≤ xa + j ∧ xa + j < t + ([b] : List UInt8).length then ([b] : List UInt8).getD (xa + j - t).toNat 0 else xd.toList.getD j 0) by simp [hj]]
        rw [Array.set!_eq_setIfInBounds, Array.toList_setIfInBounds, List.length_singleton]
        by_cases hjt : j = (t % 256).toNat
        · subst hjt
          rw [if_pos (by omega), List.getElem?_set_self (by simp; omega), show (xa + ((t % 256).toNat : Int) - t).toNat = 0 by omega]
          rfl
        · rw [if_neg (by omega), List.getElem?_set_ne (by omega), List.getD_eq_getElem?_getD, List.getElem?_eq_getElem (by simp; omega)]
          rfl
      · rw [List.getElem?_eq_none (by simp; omega), List.getElem?_eq_none (by simp; omega)]
    · rw [List.getElem?_set_ne (by omega), List.getElem?_eq_getElem hk]
      congr 1
      refine over_out (hR.size hk) (fun j hj h => ?_)
      simp only [List.length_singleton] at h
      have hm := hR.at_mod hk
      have e2 : m[k].a = t - t % 256 := by omega
      rcases Nat.lt_trichotomy k (M.low m (t - t % 256)) with hlt | he | hgt
      · have := hR.at_lt hlt h1; omega
      · exact e he
      · have := hR.at_lt hgt hk; omega
  · rw [List.getElem?_eq_none (by omega), List.getElem?_eq_none (by simp; omega)]
    rfl
end Go.Proofs.YtclbkdnihhmglaaDoor
