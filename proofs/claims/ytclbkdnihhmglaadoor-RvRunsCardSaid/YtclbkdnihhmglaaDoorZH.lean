/- Store and Fill. Pure words of memory in pages: what Map comes to, and small facts. Memory with bytes laid into it: what it grants, and which bytes it holds. Pure words of right memory: where a page stands, one place asked. -/
import Derived.Test.YtclbkdnihhmglaaDoorZP10
import Derived.Test.YtclbkdnihhmglaaDoorZP17
namespace Go.Proofs.YtclbkdnihhmglaaDoor
open Go.RowKit

/-- a new row of the call's own with these pages, and an error's number -/
def NewPagesE (m : List M.Pg) (err : Int) (w : World) (e : Ending) (w' : World) : Prop := ∃ v', e = .returned (.tuple #[v', .int .i64 err]) ∧ OwnsP w' w.heap.size v' m ∧ Below w.heap.size w w'
def storeM (m : List M.Pg) (a n : Int) (v : Nat) : List M.Pg := if numErr m a n 2 = 0 then laid m a (M.lowest v n.toNat) else m
def fillM (m : List M.Pg) (a : Int) (l : ByteArray) : List M.Pg := if fillErr m a l.size = 0 then laid m a l.data.toList else m
theorem ownsP_base {W : World} {base base' : Nat} {v : Value} {m : List M.Pg} (h : OwnsP W base v m) (hb : base' ≤ base) : OwnsP W base' v m := by
  have h' : W.ownsRow base 43 3 v m.length (cellsOf m) := h
  exact ⟨h'.1, by
    rcases h'.2 with ⟨e, e2⟩ | ⟨g', cap', cur, e, e2, e3⟩
    · exact .inl ⟨e, e2⟩
    · exact .inr ⟨g', cap', cur, e, by omega, e3⟩⟩

set_option maxHeartbeats 1000000 in
theorem store_any {m : List M.Pg} {v : Value} (a n : Int) (x : Nat) {w : World} (hP : Pages w v m) (hw : Wf m) (hn : m.length * 32 ≤ 140737488355328) (a0 : 0 ≤ a) (a1 : a ≤ 18446744073709551615) (hx : x < 18446744073709551616) :
    Calls Tryd.prog 41 #[v, .int .u64 a, .int .i64 n, .int .u64 x] w (NewPagesE (storeM m a n x) (numErr m a n 2) w) := by
  have HE := Lib.hid (numErr_any a n 2 hP hw a0 a1)
  have HP := Lib.hid hP
  obtain ⟨A, cap, hv⟩ := hP.slice
  obtain ⟨nv, hnv⟩ : ∃ nv, m.length = nv := ⟨_, rfl⟩
  have HNV := Lib.hid hnv
  rw [hnv] at hv
  by_cases h0 : numErr m a n 2 = 0
  · have HV := Lib.hid (show storeM m a n x = laid m a (M.lowest x n.toNat) by unfold storeM; rw [if_pos h0])
    obtain ⟨n1, n8, hr, hg⟩ := numErr_zero h0
    have hR := Right.of hr hw.a0 hw.a1
    obtain ⟨hk, hin⟩ := granted_in hR a0 a1 hg
    obtain ⟨N, rfl⟩ := Int.eq_ofNat_of_zero_le (show 0 ≤ n by omega)
    rw [show ((N : Int)).toNat = N by omega] at HV
    have hsz : ((⟨(M.lowest x N).toArray⟩ : ByteArray)).size = N := by
      show (M.lowest x N).toArray.size = N
      rw [List.size_toArray, M.lowest_length]
    have HL := Lib.hid (fun (W : World) (hb : Below w.heap.size w W) => lay_any a ⟨(M.lowest x N).toArray⟩ (hP.next hb) hR a0 a1 (by rw [hsz]; omega) (by rw [hsz]; exact hk) (by rw [hsz]; exact hin))
    have HD := Lib.hid (show ((⟨(M.lowest x N).toArray⟩ : ByteArray)).data.toList = M.lowest x N by simp)
    rw [HD.out] at HL
    have HLO := Lib.hid (fun W => lowest_any x N W hx (by omega))
    rw [HV.out]
    rw [h0] at HE ⊢
    subst hv
    clear hP hw hn hnv h0 hr hg hin hk hsz HD HV
    go_enter Tryd.func41, Tryd.ntmps41
    go_wp2_with fail
    refine HE.out.mono ?_
    rintro e w1 ⟨rfl, hb1⟩
    have HB1 := Lib.hid hb1
    clear hb1
    go_wp2_with fail
    refine (HLO.out _).mono ?_
    rintro e w2 ⟨rfl, hb2⟩
    have HB2 := Lib.hid (bthen HB1.out hb2)
    clear hb2
    go_wp2_with fail
    refine (HL.out _ HB2.out).mono ?_
    rintro e w3 ⟨ov, rfl, hown, hb3⟩
    have HB3 := Lib.hid (bthen HB2.out hb3)
    have HO := Lib.hid (ownsP_base hown HB2.out.size)
    obtain ⟨A2, cap2, hv2⟩ := hown.pages.slice
    obtain ⟨n2, hn2⟩ : ∃ n2, (laid m a (M.lowest x N)).length = n2 := ⟨_, rfl⟩
    rw [hn2] at hv2
    subst hv2
    clear hb3 hown hn2
    go_wp2_with fail
    go_ret2
    exact ⟨_, rfl, HO.out, HB3.out⟩
  · have HV := Lib.hid (show storeM m a n x = m by unfold storeM; rw [if_neg h0])
    have HC := Lib.hid (fun (W : World) (hb : Below w.heap.size w W) => clone_any (hP.next hb) hn)
    rw [HV.out]
    obtain ⟨r, hr⟩ : ∃ r, numErr m a n 2 = r := ⟨_, rfl⟩
    rw [hr] at h0 HE ⊢
    have t0 : (r != 0) = true := by simpa using h0
    subst hv
    clear hP hw hn hnv hr h0 HV
    go_enter Tryd.func41, Tryd.ntmps41
    go_wp2_with fail
    refine HE.out.mono ?_
    rintro e w1 ⟨rfl, hb1⟩
    have HB1 := Lib.hid hb1
    clear hb1
    go_wp2_with fail
    refine (HC.out _ HB1.out).mono ?_
    rintro e w3 ⟨ov, rfl, hown, hb3⟩
    have HB3 := Lib.hid (bthen HB1.out hb3)
    have HO := Lib.hid (ownsP_base hown HB1.out.size)
    obtain ⟨A2, cap2, hv2⟩ := hown.pages.slice
    rw [HNV.out] at hv2
    subst hv2
    clear hb3 hown
    go_wp2_with fail
    go_ret2
    exact ⟨_, rfl, HO.out, HB3.out⟩

end Go.Proofs.YtclbkdnihhmglaaDoor

namespace Go.Proofs.YtclbkdnihhmglaaDoor
open Go.RowKit

def anyB (m : List M.Pg) (a n : Int) : Bool := (M.strs a (n * 256)).any (fun s => M.there m s.pg)
def mapArg (m : List M.Pg) (a n perm : Int) : Bool := rightB m && (decide (a % 256 = 0) && (decide (1 ≤ n) && (decide (n ≤ 64) && (M.okPerm perm && !beyondB a (n * 256)))))
def mapErr (m : List M.Pg) (a n perm : Int) : Int :=
  if mapArg m a n perm = false then 1 else if anyB m a n = true then 9 else if 64 < m.length + n then 4 else 0

/-- a page of noughts at a row's page -/
def mkPg (perm : Int) (Z : ByteArray) (s : M.Str) : M.Pg := ⟨s.pg, perm, Z⟩
def noughts : ByteArray := ⟨(List.replicate 256 (0 : UInt8)).toArray⟩
/-- memory with more pages -/
def mapM (m : List M.Pg) (a n perm : Int) : List M.Pg :=
  if mapErr m a n perm = 0 then m.take (M.low m a) ++ ((M.strs a (n * 256)).map (mkPg perm noughts) ++ m.drop (M.low m a)) else m
theorem mapErr_zero {m : List M.Pg} {a n perm : Int} (h : mapErr m a n perm = 0) : rightB m = true ∧ a % 256 = 0 ∧ 1 ≤ n ∧ n ≤ 64 ∧ M.okPerm perm = true ∧ a + n * 256 ≤ 18446744073709551616 ∧ anyB m a n = false ∧ m.length + n ≤ 64 := by
  unfold mapErr at h
  split at h
  · cases h
  · rename_i h1
    split at h
    · cases h
    · rename_i h2
      split at h
      · cases h
      · simp only [mapArg, Bool.not_eq_false, Bool.and_eq_true, decide_eq_true_eq, Bool.not_eq_true'] at h1
        obtain ⟨hr, h3, h4, h5, hp, hb⟩ := h1
        refine ⟨hr, h3, h4, h5, hp, ?_, by simpa using h2, by omega⟩
        simp [beyondB] at hb
        omega

theorem Pages.len {W : World} {A : Option Addr} {n cap : Nat} {m : List M.Pg} (h : Pages W (.slice A n cap) m) : n = m.length := by
  obtain ⟨A', cap', e⟩ := h.slice
  cases e; rfl
theorem right_nil : rightB [] = true := by simp [rightB]
theorem noughts_size : noughts.size = 256 := by decide +kernel
end Go.Proofs.YtclbkdnihhmglaaDoor

namespace Go.Proofs.YtclbkdnihhmglaaDoor
open Go.RowKit

theorem laid_length (m : List M.Pg) (a : Int) (l : List UInt8) : (laid m a l).length = m.length := by simp [laid]
theorem laid_low (m : List M.Pg) (a : Int) (l : List UInt8) (x : Int) : M.low (laid m a l) x = M.low m x := by
  unfold M.low laid
  rw [List.countP_map]
  rfl
theorem laid_there (m : List M.Pg) (a : Int) (l : List UInt8) (x : Int) : M.there (laid m a l) x = M.there m x := by
  unfold M.there laid
  rw [List.any_map]
  rfl
theorem laid_get (m : List M.Pg) (a : Int) (l : List UInt8) (i : Nat) : (laid m a l)[i]? = (m[i]?).map (fun x => over x a l) := by simp [laid]
theorem over_size (x : M.Pg) (a : Int) (l : List UInt8) : (over x a l).d.size = 256 := by
  show (over x a l).d.data.size = 256
  simp [over]
theorem laid_right {m : List M.Pg} (h : M.Right m) (a : Int) (l : List UInt8) : M.Right (laid m a l) := by
  have hm : ∀ x ∈ laid m a l, ∃ q ∈ m, x = over q a l := fun x hx => by
    obtain ⟨q, hq, rfl⟩ := List.mem_map.1 hx
    exact ⟨q, hq, rfl⟩
  refine ⟨by rw [laid_length]; exact h.len, fun x hx => ?_, ?_, fun x hx => ?_, fun x hx => ?_⟩
  · obtain ⟨q, hq, rfl⟩ := hm x hx
    have := h.ok q hq
    simp only [M.okPg, Bool.and_eq_true, decide_eq_true_eq] at this ⊢
    exact ⟨this.1, this.2.1, over_size _ _ _⟩
  · unfold laid
    rw [List.pairwise_map]
    exact h.up
  · obtain ⟨q, hq, rfl⟩ := hm x hx
    exact h.ge q hq
  · obtain ⟨q, hq, rfl⟩ := hm x hx
    exact h.le q hq
theorem laid_grant (m : List M.Pg) (a : Int) (l : List UInt8) (x perm : Int) : grantB (laid m a l) x perm = grantB m x perm := by
  unfold grantB
  rw [laid_there, laid_low, laid_get]
  cases m[M.low m x]? <;> rfl
theorem laid_all (m : List M.Pg) (a : Int) (l : List UInt8) (b n perm : Int) : allGrantB (laid m a l) b n perm = allGrantB m b n perm := by
  unfold allGrantB
  simp only [laid_grant]
theorem laid_num {m : List M.Pg} (h : M.Right m) (a : Int) (l : List UInt8) (b n perm : Int) : numErr (laid m a l) b n perm = numErr m b n perm := by
  unfold numErr
  rw [laid_all, Right.rb h, Right.rb (laid_right h a l)]
theorem laid_wf {m : List M.Pg} (h : M.Right m) (a : Int) (l : List UInt8) : Wf (laid m a l) := by
  have hr := laid_right h a l
  exact ⟨Nat.le_trans hr.len (by omega), hr.ge, hr.le⟩
/-- the byte at a place, behind the laying -/
theorem laid_byte {m : List M.Pg} (h : M.Right m) (a : Int) (l : List UInt8) (t : Int) (ht : M.there m (t - t % 256) = true) :
    M.byteAt (laid m a l) t = if a ≤ t ∧ t < a + l.length then l.getD (t - a).toNat 0 else M.byteAt m t := by
  obtain ⟨hi, he⟩ := (M.there_iff h.up _).1 ht
  obtain ⟨i, hil⟩ : ∃ i, M.low m (t - t % 256) = i := ⟨_, rfl⟩
  have hq := List.getElem?_eq_getElem hi
  obtain ⟨q, hqe⟩ : ∃ q, m[M.low m (t - t % 256)] = q := ⟨_, rfl⟩
  rw [hqe] at he hq
  have hj : (t % 256).toNat < 256 := by omega
  unfold M.byteAt M.dataAt
  rw [laid_low, laid_get, hq]
  show (over q a l).d.data.toList.getD (t % 256).toNat 0 = if a ≤ t ∧ t < a + l.length then l.getD (t - a).toNat 0 else q.d.data.toList.getD (t % 256).toNat 0
  have hqt : q.a + ((t % 256).toNat : Int) = t := by omega
  have : (over q a l).d.data.toList = (List.range 256).map (fun (j : Nat) => if a ≤ q.a + j ∧ q.a + j < a + l.length then l.getD (q.a + j - a).toNat 0 else q.d.data.toList.getD j 0) := by simp [over]
  rw [this, List.getD_eq_getElem?_getD, List.getElem?_map, List.getElem?_range hj]
  show (if a ≤ q.a + ((t % 256).toNat : Int) ∧ q.a + ((t % 256).toNat : Int) < a + l.length then l.getD (q.a + ((t % 256).toNat : Int) - a).toNat 0 else q.d.data.toList.getD (t % 256).toNat 0) = _
  rw [hqt]
theorem okBits_zero (p : Int) : okBits p 0 = true := by
  unfold okBits
  simp [bits]
  decide +kernel
theorem there_of {m : List M.Pg} {a n perm : Int} (a0 : 0 ≤ a) (hg : allGrantB m a n perm = true) (t : Int) (h0 : a ≤ t) (h1 : t < a + n) : M.there m (t - t % 256) = true := by
  simp only [allGrantB, Bool.and_eq_true, Bool.not_eq_true', List.all_eq_true] at hg
  obtain ⟨s, hs, e, _, _⟩ := M.strs_has a0 (n := n) t h0 h1
  have h := hg.2 s hs
  rw [e] at h
  simp only [grantB, Bool.and_eq_true] at h
  exact h.1
theorem grant_zero {m : List M.Pg} {a n perm : Int} (hg : allGrantB m a n perm = true) : allGrantB m a n 0 = true := by
  simp only [allGrantB, Bool.and_eq_true, Bool.not_eq_true', List.all_eq_true] at hg ⊢
  refine ⟨hg.1, fun s hs => ?_⟩
  have h := hg.2 s hs
  simp only [grantB, Bool.and_eq_true] at h ⊢
  refine ⟨h.1, ?_⟩
  have h2 := h.2
  cases hq : m[M.low m s.pg]? with
  | none => rw [hq] at h2; cases h2
  | some q => exact okBits_zero _
/-- what PageBack asks -/
theorem back_of {m : List M.Pg} (h0 : ∀ x ∈ m, 0 ≤ x.a) (h1 : ∀ x ∈ m, x.a ≤ 18446744073709551615) {a : Int} {V : Nat} (a0 : 0 ≤ a) (hV : V < 18446744073709551616) (he : numErr m a 8 2 = 0) (b : Int) :
    numErr (laid m a (M.lowest V 8)) a 8 0 = 0 ∧ loadV (laid m a (M.lowest V 8)) a 8 0 = (V : Int) ∧ numErr (laid m a (M.lowest V 8)) b 1 0 = numErr m b 1 0 ∧
      (¬ (a ≤ b ∧ b < a + 8) → 0 ≤ b → loadV (laid m a (M.lowest V 8)) b 1 0 = loadV m b 1 0) := by
  obtain ⟨_, _, hr, hg⟩ := numErr_zero he
  have hR := Right.of hr h0 h1
  have hl := M.lowest_length 8 V
  have e1 : numErr (laid m a (M.lowest V 8)) a 8 0 = 0 := by
    rw [laid_num hR]
    simp [numErr, hr, grant_zero hg]
  refine ⟨e1, ?_, laid_num hR _ _ _ _ _, fun hb b0 => ?_⟩
  · unfold loadV
    rw [if_pos e1]
    have hbs : M.bytesOf (laid m a (M.lowest V 8)) a 8 = M.lowest V 8 := by
      apply List.ext_getElem?
      intro i
      by_cases hi : i < 8
      · rw [M.bytesOf_get _ 8 a i hi, laid_byte hR _ _ _ (there_of a0 hg _ (by omega) (by omega)), if_pos (by rw [hl]; omega), List.getD_eq_getElem?_getD,
          show (a + (i : Int) - a).toNat = i by omega, List.getElem?_eq_getElem (by rw [hl]; exact hi)]
        rfl
      · rw [List.getElem?_eq_none (by rw [M.bytesOf_length]; omega), List.getElem?_eq_none (by rw [hl]; omega)]
    show M.num (M.bytesOf (laid m a (M.lowest V 8)) a 8) = _
    rw [hbs, M.num_lowest, Nat.mod_eq_of_lt (by simpa using hV)]
  · unfold loadV
    rw [laid_num hR]
    by_cases hz : numErr m b 1 0 = 0
    · rw [if_pos hz, if_pos hz]
      obtain ⟨_, _, _, hgb⟩ := numErr_zero hz
      show M.num [M.byteAt (laid m a (M.lowest V 8)) b] = M.num [M.byteAt m b]
      rw [laid_byte hR _ _ _ (there_of b0 hgb b (by omega) (by omega)), if_neg (by rw [hl]; exact hb)]
    · rw [if_neg hz, if_neg hz]
end Go.Proofs.YtclbkdnihhmglaaDoor

namespace Go.Proofs.YtclbkdnihhmglaaDoor
open Go.RowKit

theorem low_at {m : List M.Pg} (h : M.Right m) {i : Nat} (hi : i < m.length) : M.there m m[i].a = true ∧ M.low m m[i].a = i := by
  have ht : M.there m m[i].a = true := by
    unfold M.there
    rw [List.any_eq_true]
    exact ⟨m[i], List.getElem_mem hi, by simp⟩
  refine ⟨ht, ?_⟩
  obtain ⟨h1, h2⟩ := (M.there_iff h.up _).1 ht
  rcases Nat.lt_trichotomy (M.low m m[i].a) i with h3 | h3 | h3
  · have := h.at_lt h3 hi
    omega
  · exact h3
  · have := h.at_lt h3 h1
    omega
theorem data_in {m : List M.Pg} (h : M.Right m) {x : M.Pg} (hx : x ∈ m) : M.there m x.a = true ∧ M.dataAt m x.a = x.d := by
  obtain ⟨i, hi, rfl⟩ := List.mem_iff_getElem.1 hx
  obtain ⟨h1, h2⟩ := low_at h hi
  refine ⟨h1, ?_⟩
  unfold M.dataAt
  rw [h2, List.getElem?_eq_getElem hi]
  rfl
theorem one_num {m : List M.Pg} (h : M.Right m) {t : Int} (_ : 0 ≤ t) (t1 : t ≤ 18446744073709551615) :
    numErr m t 1 0 = (if M.there m (t - t % 256) = true then 0 else 6) ∧ loadV m t 1 0 = (if M.there m (t - t % 256) = true then ((M.byteAt m t).toNat : Int) else 0) := by
  have hgr : grantB m (t - t % 256) 0 = M.there m (t - t % 256) := by
    unfold grantB
    cases ht : M.there m (t - t % 256)
    · rfl
    · obtain ⟨h1, _⟩ := (M.there_iff h.up _).1 ht
      rw [List.getElem?_eq_getElem h1]
      exact okBits_zero _
  have hmin : min (1 : Int) (256 - t % 256) = 1 := by omega
  have hst : M.strs t 1 = [⟨t - t % 256, t % 256, 1⟩] := by
    rw [M.strs_cons (by omega), hmin, M.strs_nil (by omega)]
  have hall : allGrantB m t 1 0 = M.there m (t - t % 256) := by
    unfold allGrantB
    rw [hst, show beyondB t 1 = false by simp [beyondB]; omega]
    simp [hgr]
  have e1 : numErr m t 1 0 = (if M.there m (t - t % 256) = true then 0 else 6) := by
    unfold numErr
    rw [hall, Right.rb h]
    cases M.there m (t - t % 256) <;> simp
  refine ⟨e1, ?_⟩
  unfold loadV
  rw [e1]
  cases M.there m (t - t % 256)
  · simp
  · show M.num [M.byteAt m t] = _
    simp [M.num]
theorem noughts_get (j : Nat) : noughts.data.toList.getD j 0 = 0 := by
  have : noughts.data.toList = List.replicate 256 0 := rfl
  rw [this, List.getD_eq_getElem?_getD, List.getElem?_replicate]
  split <;> rfl
/-- what PageNew asks -/
theorem strs_full : ∀ (N : Nat) (a : Int), a % 256 = 0 → M.strs a ((N : Int) * 256) = (List.range N).map (fun j : Nat => (⟨a + 256 * j, 0, 256⟩ : M.Str))
  | 0, a, _ => by rw [M.strs_nil (by omega)]; rfl
  | N + 1, a, h => by
    have hmin : min (((N + 1 : Nat) : Int) * 256) (256 - a % 256) = 256 := by omega
    rw [M.strs_cons (by omega), hmin, show ((N + 1 : Nat) : Int) * 256 - 256 = (N : Int) * 256 by omega, strs_full N (a + 256) (by omega), List.range_succ_eq_map, List.map_cons, List.map_map]
    congr 1
    · congr 1
      all_goals omega
    · apply List.map_congr_left
      intro j _
      show (⟨a + 256 + 256 * j, 0, 256⟩ : M.Str) = ⟨a + 256 * ((j + 1 : Nat) : Int), 0, 256⟩
      congr 1
      omega
theorem new_full (a perm : Int) (N : Nat) (h : a % 256 = 0) : (M.strs a ((N : Int) * 256)).map (mkPg perm noughts) = (List.range N).map (fun j : Nat => (⟨a + 256 * j, perm, noughts⟩ : M.Pg)) := by
  rw [strs_full N a h, List.map_map]
  rfl
theorem not_there {m : List M.Pg} {a : Int} {N : Nat} (ha : a % 256 = 0) (h : anyB m a N = false) : ∀ x ∈ m, ∀ j : Nat, j < N → x.a ≠ a + 256 * j := by
  intro x hx j hj e
  unfold anyB at h
  rw [strs_full N a ha, List.any_eq_false] at h
  have h1 := h (⟨a + 256 * j, 0, 256⟩ : M.Str) (List.mem_map.2 ⟨j, List.mem_range.2 hj, rfl⟩)
  apply h1
  unfold M.there
  rw [List.any_eq_true]
  exact ⟨x, hx, by simp [e]⟩
theorem map_right {m : List M.Pg} (hR : M.Right m) {a perm : Int} {N : Nat} (a0 : 0 ≤ a) (he : mapErr m a N perm = 0) :
    M.Right (m.take (M.low m a) ++ ((M.strs a ((N : Int) * 256)).map (mkPg perm noughts) ++ m.drop (M.low m a))) := by
  obtain ⟨_, hm, n1, n64, hpm, hby, hany, hlen⟩ := mapErr_zero he
  have hnt := not_there hm hany
  rw [new_full a perm N hm]
  have hnew : ∀ x ∈ (List.range N).map (fun j : Nat => (⟨a + 256 * j, perm, noughts⟩ : M.Pg)), ∃ j : Nat, j < N ∧ x = ⟨a + 256 * j, perm, noughts⟩ := fun x hx => by
    obtain ⟨j, hj, rfl⟩ := List.mem_map.1 hx
    exact ⟨j, List.mem_range.1 hj, rfl⟩
  have hmem : ∀ x ∈ m.take (M.low m a) ++ ((List.range N).map (fun j : Nat => (⟨a + 256 * j, perm, noughts⟩ : M.Pg)) ++ m.drop (M.low m a)), x ∈ m ∨ ∃ j : Nat, j < N ∧ x = ⟨a + 256 * j, perm, noughts⟩ := fun x hx => by
    rcases List.mem_append.1 hx with h | h
    · exact .inl (List.mem_of_mem_take h)
    · rcases List.mem_append.1 h with h | h
      · exact .inr (hnew x h)
      · exact .inl (List.mem_of_mem_drop h)
  have htake : ∀ x ∈ m.take (M.low m a), x.a < a := fun x hx => by
    obtain ⟨i, hi, rfl⟩ := List.mem_iff_getElem.1 hx
    rw [List.getElem_take]
    have h1 : i < M.low m a := by rw [List.length_take] at hi; omega
    exact (M.lt_low hR.up a _).2 h1
  have hdrop : ∀ x ∈ m.drop (M.low m a), a + 256 * (N : Int) ≤ x.a := fun x hx => by
    have hxm := List.mem_of_mem_drop hx
    obtain ⟨i, hi, he⟩ := List.mem_iff_getElem.1 hx
    rw [List.getElem_drop] at he
    have hil : M.low m a + i < m.length := by rw [List.length_drop] at hi; omega
    have h1 : ¬ (m[M.low m a + i].a < a) := fun h => by
      have := (M.lt_low hR.up a hil).1 h
      omega
    rw [he] at h1
    have h2 : x.a % 256 = 0 := by rw [← he]; exact hR.at_mod hil
    by_cases hlt : a + 256 * (N : Int) ≤ x.a
    · exact hlt
    · exfalso
      refine hnt x hxm ((x.a - a) / 256).toNat (by omega) (by omega)
  refine ⟨?_, fun x hx => ?_, ?_, fun x hx => ?_, fun x hx => ?_⟩
  · have := M.low_le m a
    simp only [List.length_append, List.length_take, List.length_drop, List.length_map, List.length_range]
    omega
  · rcases hmem x hx with h | ⟨j, hj, rfl⟩
    · exact hR.ok x h
    · simp only [M.okPg, Bool.and_eq_true, decide_eq_true_eq]
      exact ⟨by show (a + 256 * (j : Int)) % 256 = 0; omega, hpm, noughts_size⟩
  · rw [List.pairwise_append]
    have hsplit := hR.up
    rw [← List.take_append_drop (M.low m a) m, List.pairwise_append] at hsplit
    refine ⟨hsplit.1, ?_, fun x hx y hy => ?_⟩
    · rw [List.pairwise_append]
      refine ⟨?_, hsplit.2.1, fun x hx y hy => ?_⟩
      · rw [List.pairwise_map]
        refine List.pairwise_lt_range.imp fun h => ?_
        show a + 256 * (_ : Int) < a + 256 * (_ : Int)
        omega
      · obtain ⟨j, hj, rfl⟩ := hnew x hx
        have := hdrop y hy
        show a + 256 * (j : Int) < y.a
        omega
    · have h1 := htake x hx
      rcases List.mem_append.1 hy with h | h
      · obtain ⟨j, hj, rfl⟩ := hnew y h
        show x.a < a + 256 * (j : Int)
        omega
      · exact hsplit.2.2 x hx y h
  · rcases hmem x hx with h | ⟨j, hj, rfl⟩
    · exact hR.ge x h
    · show 0 ≤ a + 256 * (j : Int); omega
  · rcases hmem x hx with h | ⟨j, hj, rfl⟩
    · exact hR.le x h
    · show a + 256 * (j : Int) ≤ 18446744073709551615; omega
theorem mapM_right {m : List M.Pg} (hR : M.Right m) {a n perm : Int} (a0 : 0 ≤ a) : M.Right (mapM m a n perm) := by
  unfold mapM
  split
  · rename_i he
    obtain ⟨_, _, n1, _⟩ := mapErr_zero he
    obtain ⟨N, rfl⟩ := Int.eq_ofNat_of_zero_le (show 0 ≤ n by omega)
    exact map_right hR a0 he
  · exact hR
theorem storeM_right {m : List M.Pg} (hR : M.Right m) (a n : Int) (v : Nat) : M.Right (storeM m a n v) ∧ (storeM m a n v).length = m.length := by
  unfold storeM
  split
  · exact ⟨laid_right hR _ _, laid_length _ _ _⟩
  · exact ⟨hR, rfl⟩
theorem fillM_right {m : List M.Pg} (hR : M.Right m) (a : Int) (l : ByteArray) : M.Right (fillM m a l) ∧ (fillM m a l).length = m.length := by
  unfold fillM
  split
  · exact ⟨laid_right hR _ _, laid_length _ _ _⟩
  · exact ⟨hR, rfl⟩
end Go.Proofs.YtclbkdnihhmglaaDoor
