/- Package reach: calls; Deepest. -/
import Derived.Test.YtoglmdadpchhoaaR9
namespace Go.Proofs.Ytoglmdadpchhoaa
open Go.RowKit Go.Shelf

def callsI (l : List In) : List ByteArray := (l.filter fun i => i.o == 14).map (·.s)
def callsK (l : List Bk) (k : Nat) : List ByteArray := ((l.take k).map fun b => callsI b.i).flatten
def callsL (f : Fn) : List ByteArray := (f.l.map fun b => callsI b.i).flatten
theorem callsK_succ (l : List Bk) (k : Nat) (h : k < l.length) : callsK l (k + 1) = callsK l k ++ callsI l[k].i := by
  unfold callsK
  rw [List.take_succ_eq_append_getElem h, List.map_append, List.flatten_append]
  simp
theorem callsI_take {l : List In} {j : Nat} (hj : j < l.length) : callsI (l.take (j + 1)) = callsI (l.take j) ++ (if (l[j].o == 14) = true then [l[j].s] else []) := by
  unfold callsI
  rw [List.take_succ_eq_append_getElem hj, List.filter_append, List.map_append]
  congr 1
  cases h : (l[j].o == 14) <;> simp only [List.filter, h] <;> rfl
theorem callsI_len (l : List In) : (callsI l).length ≤ l.length := by
  unfold callsI
  rw [List.length_map]
  exact List.length_filter_le _ _
theorem calls_len (f : Fn) : (callsL f).length ≤ (insF f).length := by
  unfold callsL insF
  generalize f.l = l
  induction l with
  | nil => simp
  | cons b l ih =>
    rw [List.map_cons, List.map_cons, List.flatten_cons, List.flatten_cons, List.length_append, List.length_append]
    have := callsI_len b.i
    omega
theorem calls_room {f : Fn} {k n : Nat} (hk : k < f.l.length) : (callsK f.l k ++ callsI (f.l[k].i.take n)).length ≤ (insF f).length := by
  have key : ∀ (r : List Bk), ((r.map fun b => callsI b.i).flatten).length ≤ ((r.map (·.i)).flatten).length := by
    intro r
    induction r with
    | nil => simp
    | cons c r ih =>
      rw [List.map_cons, List.map_cons, List.flatten_cons, List.flatten_cons, List.length_append, List.length_append]
      have := callsI_len c.i
      omega
  have h1 := key (f.l.take k)
  have h2 := callsI_len (f.l[k].i.take n)
  have h3 : (f.l[k].i.take n).length ≤ f.l[k].i.length := by rw [List.length_take]; omega
  have h4 : (((f.l.take (k + 1)).map (·.i)).flatten).length ≤ (insF f).length := by
    unfold insF
    rw [show (f.l.map (·.i)).flatten = ((f.l.take (k + 1)).map (·.i)).flatten ++ ((f.l.drop (k + 1)).map (·.i)).flatten by rw [← List.flatten_append, ← List.map_append, List.take_append_drop], List.length_append]
    omega
  rw [List.take_succ_eq_append_getElem hk, List.map_append, List.flatten_append, List.length_append] at h4
  simp only [List.map_cons, List.map_nil, List.flatten_cons, List.flatten_nil, List.append_nil] at h4
  unfold callsK
  rw [List.length_append]
  omega
set_option maxRecDepth 100000 in
set_option maxHeartbeats 16000000 in
theorem calls_any (f : Fn) (C : Option Addr) (nl ca : Nat) (w : World) (hnl : f.l.length = nl) (hok : FnOk f) (hk : FnK 1048576 f) (hS : Blocks w (.slice C nl ca) f.l) :
    Calls Try.prog 55 #[.agg #[.string f.s, .int .i64 f.b, .int .i64 f.p, .slice C nl ca]] w (MadeN (callsL f) w) := by
  have HS := Lib.hid hS
  have HNL := Lib.hid (show f.l.length ≤ nl ∧ nl ≤ f.l.length by omega)
  have HRM := Lib.hid (fun (k n : Nat) (hkl : k < f.l.length) => (show (callsK f.l k ++ callsI (f.l[k].i.take n)).length ≤ 1048576 from by have := calls_room (n := n) hkl; have := hk.2.1; omega))
  have HBI := Lib.hid (show ∀ b ∈ f.l, b.i.length ≤ 1048576 from fun b hb => (hk.2.2 b hb).1)
  have HAL := Lib.hid (show callsK f.l nl = callsL f by unfold callsK callsL; rw [List.take_of_length_le (by omega)])
  have n1 : (nl : Int) ≤ 1048576 := by have := hk.1; omega
  obtain ⟨s, b, p, l⟩ := f
  dsimp only at HS HNL HRM HBI HAL ⊢
  have hcb := heap_alloc_new w (.cells #[.string s, .int .i64 b, .int .i64 p, .slice C nl ca] 50)
  have HB0 := Lib.hid (balloc (Below.refl _ w) (.cells #[.string s, .int .i64 b, .int .i64 p, .slice C nl ca] 50))
  have HBS := Lib.hid (show (w.alloc (.cells #[.string s, .int .i64 b, .int .i64 p, .slice C nl ca] 50)).heap.size = w.heap.size + 1 by simp)
  obtain ⟨W0, hW0⟩ : ∃ U, w.alloc (.cells #[.string s, .int .i64 b, .int .i64 p, .slice C nl ca] 50) = U := ⟨_, rfl⟩
  rw [hW0] at hcb HB0 HBS
  have HCB := Lib.hid (show Whole W0 w.heap.size 50 #[.string s, .int .i64 b, .int .i64 p, .slice C nl ca] from hcb)
  have c3 : W0.cell? ⟨w.heap.size, 3, none⟩ = some (.slice C nl ca) := HCB.out.cell 3
  clear hS hnl hok hk hcb
  go_enter Try.func55, Try.ntmps55
  go_wp2_with fail
  clear c3 hW0
  go_loopw [3, 11] (fun vv iv wr => ∃ k : Nat, k ≤ nl ∧ iv = .int .i64 k ∧ OwnsN wr W0.heap.size vv (callsK l k) ∧ Below W0.heap.size W0 wr) (fun _ iv _ => nl - (intOf iv).toNat)
  case atStart => exact ⟨0, Nat.zero_le _, rfl, OwnsN.nil _ _, Below.refl _ _⟩
  case round =>
    obtain ⟨k, hk, rfl, ho, hb⟩ := hrel
    have HO := Lib.hid ho
    have HB := Lib.hid hb
    obtain ⟨A0, z0, hv0⟩ := ho.form
    obtain ⟨L, hL⟩ : ∃ L, callsK l k = L := ⟨_, rfl⟩
    obtain ⟨nL, hnL⟩ : ∃ q, L.length = q := ⟨_, rfl⟩
    have HLQ := Lib.hid hnL
    rw [hL] at HO hv0
    rw [hnL] at hv0
    subst hv0
    have HLE := Lib.hid hL
    clear ho hb hL hnL
    by_cases hlt : k < nl
    · have hm : k < l.length := by have := HNL.out; omega
      obtain ⟨b1, off, hA, hbl, e0⟩ := RowOf.at_ HS.out hm
      subst hA
      obtain ⟨-, ⟨A1', z1', c1', hin⟩, -⟩ := id e0
      obtain ⟨c0, ⟨A1, z1, c1, -⟩, c2, c3, c4, ⟨A5, z5, c5, -⟩, c6, A7, z7, c7, -⟩ := BkAt.next _ _ _ _ _ hbl (bthen HB0.out HB.out) e0
      have hc1 : Value.slice A1 l[k].i.length z1 = Value.slice A1' l[k].i.length z1' := Option.some.inj (c1.symm.trans ((cellNext hbl (bthen HB0.out HB.out) _).trans c1'))
      obtain ⟨h31, -, h32⟩ := Value.slice.inj hc1
      subst h31 h32
      have HSK := Lib.hid (callsK_succ l k hm)
      rw [HLE.out] at HSK
      have HRK := Lib.hid (fun (n : Nat) => HRM.out k n hm)
      rw [HLE.out] at HRK
      have HB1 := Lib.hid (HBI.out _ (List.getElem_mem hm))
      have HIN := Lib.hid hin
      obtain ⟨⟨y0, bi, ⟨y2, y3, y4, el, y6, em⟩⟩, hx⟩ : ∃ x, l[k] = x := ⟨_, rfl⟩
      simp only [hx] at c0 c1 c2 c3 c4 c5 c6 c7 HSK HRK HB1 HIN
      obtain ⟨ni, hni⟩ : ∃ n, bi.length = n := ⟨_, rfl⟩
      obtain ⟨n5, hn5⟩ : ∃ n, el.length = n := ⟨_, rfl⟩
      obtain ⟨n7, hn7⟩ : ∃ n, em.length = n := ⟨_, rfl⟩
      have HNI := Lib.hid (show bi.length ≤ ni ∧ ni ≤ bi.length by omega)
      rw [hni] at c1 HB1 HIN
      rw [hn5] at c5
      rw [hn7] at c7
      have q0 : (0 : Int) ≤ (k : Int) := Int.natCast_nonneg _
      have q1 : (k : Int) < (nl : Int) := by omega
      have i9 : (ni : Int) ≤ 1048576 := by have := HB1.out; omega
      have HLT := Lib.hid hlt
      obtain ⟨W5, hW5⟩ : ∃ U, wr.alloc (.cells #[.int .i64 y0, .slice A1 ni z1, .int .i64 y2, .int .i64 y3, .int .i64 y4, .slice A5 n5 z5, .int .i64 y6, .slice A7 n7 z7] 67) = U := ⟨_, rfl⟩
      have hba := balloc (Below.refl _ wr) (.cells #[.int .i64 y0, .slice A1 ni z1, .int .i64 y2, .int .i64 y3, .int .i64 y4, .slice A5 n5 z5, .int .i64 y6, .slice A7 n7 z7] 67)
      have hnw := heap_alloc_new wr (.cells #[.int .i64 y0, .slice A1 ni z1, .int .i64 y2, .int .i64 y3, .int .i64 y4, .slice A5 n5 z5, .int .i64 y6, .slice A7 n7 z7] 67)
      rw [hW5] at hba hnw
      have d1 : W5.cell? ⟨wr.heap.size, 1, none⟩ = some (.slice A1 ni z1) := (show Whole W5 wr.heap.size 67 #[.int .i64 y0, .slice A1 ni z1, .int .i64 y2, .int .i64 y3, .int .i64 y4, .slice A5 n5 z5, .int .i64 y6, .slice A7 n7 z7] from hnw).cell 1
      have HO5 := Lib.hid (HO.out.call hba)
      have HB5 := Lib.hid (HB.out.trans (hba.mono HB.out.size))
      clear e0 hbl hx hm hlt c1' hin hc1 hni hn5 hn7 hnw hba
      go_wp2_with fail
      clear hW5 d1 c0 c1 c2 c3 c4 c5 c6 c7
      go_loopw [3, 18] (fun vv iv wx => ∃ j : Nat, j ≤ ni ∧ iv = .int .i64 j ∧ OwnsN wx W0.heap.size vv (L ++ callsI (bi.take j)) ∧ Below W0.heap.size W0 wx) (fun _ iv _ => ni - (intOf iv).toNat)
      case atStart => exact ⟨0, Nat.zero_le _, rfl, by rw [show callsI (bi.take 0) = [] from rfl, List.append_nil]; exact HO5.out, HB5.out⟩
      case round =>
        obtain ⟨j, hj, rfl, ho, hb⟩ := hrel
        have HO6 := Lib.hid ho
        have HB6 := Lib.hid hb
        obtain ⟨A6, z6, hv6⟩ := ho.form
        obtain ⟨M, hM⟩ : ∃ M, L ++ callsI (bi.take j) = M := ⟨_, rfl⟩
        obtain ⟨nM, hnM⟩ : ∃ q, M.length = q := ⟨_, rfl⟩
        have HMQ := Lib.hid hnM
        have HM9 := Lib.hid (show nM ≤ 1048576 by rw [← hnM, ← hM]; exact HRK.out j)
        rw [hM] at HO6 hv6
        rw [hnM] at hv6
        subst hv6
        have HME := Lib.hid hM
        clear ho hb hM hnM
        by_cases hlj : j < ni
        · have hmj : j < bi.length := by have := HNI.out; omega
          obtain ⟨b2, off2, hA2, hbl2, e2⟩ := RowOf.at_ HIN.out hmj
          subst hA2
          obtain ⟨p0, p1, p2, p3, p4, A9, z9, p5, -⟩ := InAt.next _ _ _ _ _ hbl2 (bthen HB0.out HB6.out) e2
          have HTJ := Lib.hid (show L ++ callsI (bi.take (j + 1)) = M ++ (if (bi[j].o == 14) = true then [bi[j].s] else []) by rw [callsI_take hmj, ← List.append_assoc, HME.out])
          obtain ⟨⟨x0, x1, x2, x3, x4, xl⟩, hy⟩ : ∃ y, bi[j] = y := ⟨_, rfl⟩
          rw [hy] at p0 p1 p2 p3 p4 p5 HTJ
          dsimp only at p0 p1 p2 p3 p4 p5 HTJ
          obtain ⟨n9, hn9⟩ : ∃ n, xl.length = n := ⟨_, rfl⟩
          rw [hn9] at p5
          have r0 : (0 : Int) ≤ (j : Int) := Int.natCast_nonneg _
          have r1 : (j : Int) < (ni : Int) := by omega
          have HLJ := Lib.hid hlj
          have hbx := balloc (Below.refl _ wr) (.cells #[.int .i64 x0, .int .i64 x1, .int .i64 x2, .int .u64 x3, .string x4, .slice A9 n9 z9] 62)
          have HO7 := Lib.hid (HO6.out.call hbx)
          have H16 := Lib.hid (show (nM + 1) * 16 ≤ 140737488355328 by have := HM9.out; omega)
          have HBW := Lib.hid (show W0.heap.size ≤ (wr.alloc (.cells #[.int .i64 x0, .int .i64 x1, .int .i64 x2, .int .u64 x3, .string x4, .slice A9 n9 z9] 62)).heap.size by have := HB6.out.size; simp; omega)
          have HBA := Lib.hid (hbx.mono HB6.out.size)
          clear e2 hbl2 hy hn9 hmj hlj hbx
          by_cases h14 : x0 = 14
          · subst h14
            have HT2 := Lib.hid (show L ++ callsI (bi.take (j + 1)) = M ++ [x4] by rw [HTJ.out]; rfl)
            go_wp2_with (at_builtin; go_loud (refine app_name rfl _ _ rfl _ (wr.alloc (.cells #[.int .i64 14, .int .i64 x1, .int .i64 x2, .int .u64 x3, .string x4, .slice A9 n9 z9] 62)) x4 rfl W0.heap.size A6 nM z6 M HMQ.out rfl (wr.heap.size + 1) (by simp) rfl HO7.out H16.out HBW.out ?_; intro A' z' w4 ho4 hb4))
            have HO4 := Lib.hid ho4
            have HB4 := Lib.hid (HB6.out.trans (HBA.out.trans hb4))
            clear ho4 hb4
            go_wp2_with fail
            go_roundw
            case rel => exact ⟨j + 1, HLJ.out, by go_num, by rw [HT2.out]; exact HO4.out, HB4.out⟩
            case measure => have := HLJ.out; simp [intOf]; omega
          · have t14 : (x0 == 14) = false := by simpa using h14
            have HT2 := Lib.hid (show L ++ callsI (bi.take (j + 1)) = M by rw [HTJ.out, t14]; exact List.append_nil _)
            clear h14
            go_wp2_with fail
            go_roundw
            case rel => exact ⟨j + 1, HLJ.out, by go_num, by rw [HT2.out]; exact HO7.out, HB6.out.trans HBA.out⟩
            case measure => have := HLJ.out; simp [intOf]; omega
        · have hd : decide (j < ni) = false := by simp; omega
          have HF := Lib.hid (show callsK l (k + 1) = M by rw [HSK.out, ← HME.out, List.take_of_length_le (by have := HNI.out; omega)])
          clear hlj
          go_wp2_with fail
          go_roundw
          case rel => exact ⟨k + 1, HLT.out, by go_num, by rw [HF.out]; exact HO6.out, HB6.out⟩
          case measure => have := HLT.out; simp [intOf]; omega
    · have hd : decide (k < nl) = false := by simp; omega
      have HF := Lib.hid (show callsL ⟨s, b, p, l⟩ = L ∧ L.length = nL by
        refine ⟨?_, HLQ.out⟩
        rw [← HAL.out, ← HLE.out, show k = nl by omega])
      go_wp2_with fail
      go_ret
      rw [HF.out.1]
      refine ⟨A0, z0, by rw [HF.out.2]; rfl, HB0.out.trans (HB.out.mono (by have := HBS.out; omega)), ?_⟩
      rw [HF.out.2]
      exact HO.out.thin (by have := HBS.out; omega)
end Go.Proofs.Ytoglmdadpchhoaa
