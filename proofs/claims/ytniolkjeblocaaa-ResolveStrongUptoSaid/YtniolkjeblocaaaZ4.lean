/- Package resolve: ResolveStrong. -/
import Derived.Test.YtniolkjeblocaaaZ5
import Derived.Test.YtniolkjeblocaaaHT3
namespace Go.Proofs.Ytniolkjeblocaaa
open Go.RowKit

theorem grp_flt {xs : List Ri} {g : Gp} (h : g ∈ grp xs) : g.l = xs.filter fun x => x.s == g.s := by
  rw [grp_eq] at h
  obtain ⟨s, hs, rfl⟩ := List.mem_map.1 h
  rfl
theorem fIdx_at {l : List ByteArray} (hn : l.Nodup) {i : Nat} (hi : i < l.length) : fIdx l l[i] = some i := by
  unfold fIdx
  rw [List.findIdx?_eq_some_iff_getElem]
  refine ⟨hi, ba_refl _, fun j hj e => ?_⟩
  have := nodup_at hn (by omega) hi ((jba_beq _ _).1 e)
  omega
theorem fIdx_get {l : List ByteArray} {s : ByteArray} {i : Nat} (h : fIdx l s = some i) : ∃ hi : i < l.length, l[i] = s := by
  unfold fIdx at h
  rw [List.findIdx?_eq_some_iff_getElem] at h
  obtain ⟨hi, e, -⟩ := h
  exact ⟨hi, (jba_beq _ _).1 e⟩
/-- is the function, or the global, of a name one that defines and is strong? -/
def stF (m : Md) (s : ByteArray) : Bool := match fIdx (m.f.map (·.s)) s with
  | some i => match m.f[i]? with
    | some f => f.b == 2 && decide (0 < f.l.length)
    | none => false
  | none => false
def stG (m : Md) (s : ByteArray) : Bool := match fIdx (m.g.map (·.s)) s with
  | some i => match m.g[i]? with
    | some g => g.b == 2 && g.h
    | none => false
  | none => false
theorem stF_iff {m : Md} (hn : (m.f.map (·.s)).Nodup) (s : ByteArray) : stF m s = true ↔ ∃ f ∈ m.f, f.s = s ∧ f.b = 2 ∧ 0 < f.l.length := by
  unfold stF
  constructor
  · intro h
    cases hf : fIdx (m.f.map (·.s)) s with
    | none => rw [hf] at h; cases h
    | some i =>
      rw [hf] at h
      obtain ⟨hi, e⟩ := fIdx_get hf
      have hi' : i < m.f.length := by simpa using hi
      simp only [List.getElem?_eq_getElem hi'] at h
      rw [List.getElem_map] at e
      simp only [Bool.and_eq_true, beq_iff_eq, decide_eq_true_eq] at h
      exact ⟨m.f[i], List.getElem_mem hi', e, h.1, h.2⟩
  · rintro ⟨f, hf, e1, e2, e3⟩
    obtain ⟨i, hi, rfl⟩ := List.getElem_of_mem hf
    have hi' : i < (m.f.map (·.s)).length := by simpa using hi
    have h := fIdx_at hn hi'
    rw [List.getElem_map, e1] at h
    rw [h]
    simp only [List.getElem?_eq_getElem hi, Bool.and_eq_true, beq_iff_eq, decide_eq_true_eq]
    exact ⟨e2, e3⟩
theorem stG_iff {m : Md} (hn : (m.g.map (·.s)).Nodup) (s : ByteArray) : stG m s = true ↔ ∃ g ∈ m.g, g.s = s ∧ g.b = 2 ∧ g.h = true := by
  unfold stG
  constructor
  · intro h
    cases hf : fIdx (m.g.map (·.s)) s with
    | none => rw [hf] at h; cases h
    | some i =>
      rw [hf] at h
      obtain ⟨hi, e⟩ := fIdx_get hf
      have hi' : i < m.g.length := by simpa using hi
      simp only [List.getElem?_eq_getElem hi'] at h
      rw [List.getElem_map] at e
      simp only [Bool.and_eq_true, beq_iff_eq] at h
      exact ⟨m.g[i], List.getElem_mem hi', e, h.1, h.2⟩
  · rintro ⟨g, hg, e1, e2, e3⟩
    obtain ⟨i, hi, rfl⟩ := List.getElem_of_mem hg
    have hi' : i < (m.g.map (·.s)).length := by simpa using hi
    have h := fIdx_at hn hi'
    rw [List.getElem_map, e1] at h
    rw [h]
    simp only [List.getElem?_eq_getElem hi, Bool.and_eq_true, beq_iff_eq]
    exact ⟨e2, e3⟩
theorem allI_in {ms : List Md} {i : Nat} (hi : i < ms.length) : (∀ f ∈ ms[i].f, ¬ f.b = 1 → ofF (i : Int) f ∈ allI ms ms.length) ∧ ∀ g ∈ ms[i].g, ¬ g.b = 1 → ofG (i : Int) g ∈ allI ms ms.length := by
  have hsub : ∀ x ∈ itemsOf (i : Int) ms[i], x ∈ allI ms ms.length := fun x hx => (allI_pre ms (i + 1)).subset (by rw [allI_succ hi]; exact List.mem_append_right _ hx)
  refine ⟨fun f hf hb => hsub _ ?_, fun g hg hb => hsub _ ?_⟩
  · exact List.mem_append_left _ (List.mem_map.2 ⟨f, List.mem_filter.2 ⟨hf, by simpa using hb⟩, rfl⟩)
  · exact List.mem_append_right _ (List.mem_map.2 ⟨g, List.mem_filter.2 ⟨hg, by simpa using hb⟩, rfl⟩)
theorem strong_any {ms : List Md} (hr : ∀ m ∈ ms, checkE m = 0) {g : Gp} (hg : g ∈ grp (allI ms ms.length)) : (ms.any fun m => stF m g.s || stG m g.s) = g.l.any seB := by
  have hnd : ∀ m ∈ ms, (m.f.map (·.s)).Nodup ∧ (m.g.map (·.s)).Nodup := fun m hm => by
    have h := (check_parts (hr m hm)).2.2.2.1
    unfold namesM at h
    rw [List.nodup_append] at h
    exact ⟨h.1, h.2.1⟩
  have key : (ms.any fun m => stF m g.s || stG m g.s) = true ↔ g.l.any seB = true := by
    rw [List.any_eq_true, List.any_eq_true]
    constructor
    · rintro ⟨m, hm, h⟩
      obtain ⟨i, hi, rfl⟩ := List.getElem_of_mem hm
      rw [grp_flt hg]
      rcases Bool.or_eq_true_iff.1 h with h | h
      · obtain ⟨f, hf, e1, e2, e3⟩ := (stF_iff (hnd _ hm).1 _).1 h
        refine ⟨ofF (i : Int) f, List.mem_filter.2 ⟨(allI_in hi).1 f hf (by omega), (jba_beq _ _).2 e1⟩, ?_⟩
        unfold seB ofF
        simp [e2, e3]
      · obtain ⟨f, hf, e1, e2, e3⟩ := (stG_iff (hnd _ hm).2 _).1 h
        refine ⟨ofG (i : Int) f, List.mem_filter.2 ⟨(allI_in hi).2 f hf (by omega), (jba_beq _ _).2 e1⟩, ?_⟩
        unfold seB ofG
        simp [e2, e3]
    · rintro ⟨x, hx, h⟩
      obtain ⟨hxi, hxs⟩ := grp_sub hg x hx
      obtain ⟨i, hi, -, hor⟩ := allI_at hxi
      refine ⟨ms[i], List.getElem_mem hi, ?_⟩
      unfold seB at h
      simp only [Bool.and_eq_true, beq_iff_eq] at h
      rcases hor with ⟨f, hf, -, rfl⟩ | ⟨gl, hgl, -, rfl⟩
      · refine Bool.or_eq_true_iff.2 (.inl ((stF_iff (hnd _ (List.getElem_mem hi)).1 _).2 ⟨f, hf, hxs, h.2, ?_⟩))
        exact of_decide_eq_true h.1
      · exact Bool.or_eq_true_iff.2 (.inr ((stG_iff (hnd _ (List.getElem_mem hi)).2 _).2 ⟨gl, hgl, hxs, h.2, h.1⟩))
  cases h1 : (ms.any fun m => stF m g.s || stG m g.s) <;> cases h2 : g.l.any seB
  · rfl
  · rw [h1, h2] at key; simp at key
  · rw [h1, h2] at key; simp at key
  · rfl
theorem wp_region_past {P : Program} {id : Nat} {Q : Exit → Act → World → Prop} {a : Act} {w : World} {l : List Oper} (hm : P.follows .mixedOrders = true) (hB : Region.lexB .any l.toArray = true)
    (h : wpQuiet P l.toArray (fun w' => ∃ p : Past w, w' = p.W) (fun a' => ∀ w', (∃ p : Past w, w' = p.W) → Q .normal a' w') l a) : (Code.region id l.toArray true).wp P Q a w :=
  wp_region_quiet (C := fun w' => ∃ p : Past w, w' = p.W) hm hB ⟨⟨w.drew, (Below.refl _ w).drew⟩, rfl⟩ (by simpa using h)
theorem past_of {P : Program} {f : FuncId} {args : Array Value} {w : World} {p : Past w} {v : Value}
    (h : Calls P f args p.W fun e w' => e = .returned v ∧ Below p.W.heap.size p.W w') : Calls P f args p.W fun e w'' => e = .returned v ∧ ∃ q : Past w, w'' = q.W :=
  h.mono fun _ w'' ⟨he, hb⟩ => ⟨he, ⟨w'', bthen p.h hb⟩, rfl⟩
set_option maxRecDepth 100000 in
set_option maxHeartbeats 4000000 in
theorem right_any (ms : List Md) (A : Option Addr) (n c : Nat) (w : World) (hn : ms.length = n) (h9 : n ≤ 9223372036854775807) (hok : ∀ m ∈ ms, MdOk m ∧ MdW m) (hS : Mods w (.slice A n c) ms) :
    Calls Try.prog 32 #[.slice A n c] w fun e w' => e = .returned (.bool (ms.all fun m => checkE m == 0)) ∧ Below w.heap.size w w' := by
  have HN := Lib.hid (show ms.length ≤ n ∧ n ≤ ms.length by omega)
  have HS := Lib.hid hS
  have HOK := Lib.hid hok
  have n9 : (n : Int) ≤ 9223372036854775807 := by omega
  obtain ⟨V, hV⟩ : ∃ V, (ms.all fun m => checkE m == 0) = V := ⟨_, rfl⟩
  have HV := Lib.hid hV
  rw [hV]
  clear hS hok hn h9 hV
  go_enter Try.func32, Try.ntmps32
  go_wp2_with fail
  go_loopw [3] (fun iv wr => ∃ i : Nat, i ≤ n ∧ iv = .int .i64 i ∧ ((ms.take i).all fun m => checkE m == 0) = true ∧ Below w.heap.size w wr) (fun iv _ => n - (intOf iv).toNat)
  case atStart => exact ⟨0, Nat.zero_le _, rfl, rfl, Below.refl _ _⟩
  case round =>
    obtain ⟨i, hi, rfl, hall, hb⟩ := hrel
    have HA := Lib.hid hall
    have HB := Lib.hid hb
    by_cases hlt : i < n
    case neg =>
      have hd : decide ((i : Int) < (n : Int)) = false := by simp; omega
      have HVT := Lib.hid (show V = true by rw [← HV.out]; have h := HA.out; rwa [List.take_of_length_le (by have := HN.out; omega)] at h)
      clear hall hb
      go_wp2_with fail
      go_ret
      exact ⟨by rw [HVT.out]; rfl, HB.out⟩
    have hm : i < ms.length := by have := HN.out; omega
    obtain ⟨b1, off, hA, hbl, F, cf, G, cg, c0, c1, hmd⟩ := RowOf.at_ (HS.out.next hb) hm
    subst hA
    have hmo := HOK.out _ (List.getElem_mem hm)
    have HTK := Lib.hid (show ((ms.take (i + 1)).all fun m => checkE m == 0) = (checkE ms[i] == 0) by rw [List.take_succ_eq_append_getElem hm, List.all_append, HA.out]; simp)
    have HNO := Lib.hid (show (checkE ms[i] == 0) = false → V = false from fun h => by
      rw [← HV.out, List.all_eq_false]
      exact ⟨ms[i], List.getElem_mem hm, by rw [h]; simp⟩)
    have HCK := Lib.hid (refCheck_any ms[i] F G _ cf _ cg wr hmo.1 hmo.2 rfl rfl hmd)
    obtain ⟨e, he⟩ : ∃ e, checkE ms[i] = e := ⟨_, rfl⟩
    rw [he] at HTK HNO HCK
    have i0 : (0 : Int) ≤ (i : Int) := Int.natCast_nonneg _
    have i1 : (i : Int) < (n : Int) := by omega
    have HLT := Lib.hid hlt
    obtain ⟨nf, hnf⟩ : ∃ q, ms[i].f.length = q := ⟨_, rfl⟩
    obtain ⟨ng, hng⟩ : ∃ q, ms[i].g.length = q := ⟨_, rfl⟩
    rw [hnf] at c0 HCK
    rw [hng] at c1 HCK
    clear hm hlt hmo hmd he hall hb hbl hnf hng
    go_wp2_with fail
    refine HCK.out.mono ?_
    rintro r w2 ⟨rfl, hb2⟩
    have HB2 := Lib.hid (bthen HB.out hb2)
    clear hb2
    by_cases he : e = 0
    · subst he
      have HT := Lib.hid (show ((ms.take (i + 1)).all fun m => checkE m == 0) = true by rw [HTK.out]; rfl)
      go_wp2_with fail
      go_roundw
      case rel => exact ⟨i + 1, HLT.out, by go_num, HT.out, HB2.out⟩
      case measure => have := HLT.out; simp [intOf]; omega
    · have he2 : (e == 0) = false := by simpa using he
      have HVF := Lib.hid (HNO.out he2)
      go_wp2_with fail
      go_ret
      exact ⟨by rw [HVF.out]; rfl, HB2.out⟩
set_option maxRecDepth 100000 in
set_option maxHeartbeats 16000000 in
theorem strong_all (ms : List Md) (A : Option Addr) (c : Nat) (w : World) (hok : ∀ m ∈ ms, MdOk m ∧ MdW m) (hsum : (ms.map fun m => m.f.length + m.g.length).sum ≤ 1048576) (hlen : ms.length ≤ 1048576) (hS : Mods w (.slice A ms.length c) ms) :
    Calls Try.prog 9 #[.slice A ms.length c] w fun e w' => e = .returned (.bool true) ∧ Below w.heap.size w w' := by
  have hT := allI_fit hsum
  have HAL := Lib.hid (fun (U : World) (hU : Below w.heap.size w U) => all_any ms A ms.length c U rfl (by omega) (fun m hm => (hok m hm).1) hT (hS.next hU))
  have HRI := Lib.hid (fun (U : World) (hU : Below w.heap.size w U) => right_any ms A ms.length c U rfl (by omega) hok (hS.next hU))
  have HST := Lib.hid (show ∀ g ∈ grp (allI ms ms.length), (ms.all fun m => checkE m == 0) = true → (ms.any fun m => stF m (defG g).s || stG m (defG g).s) = !(defG g).w from fun g hg hr => by
    have h := strong_any (fun m hm => by simpa using List.all_eq_true.1 hr m hm) hg
    show (ms.any fun m => stF m g.s || stG m g.s) = !!g.l.any seB
    rw [h, Bool.not_not])
  have HMD := Lib.hid (show ∀ g ∈ grp (allI ms ms.length), 0 ≤ (defG g).o ∧ (defG g).o < (ms.length : Int) from fun g hg => defG_mod ms hg)
  have HLL := Lib.hid (show (grp (allI ms ms.length)).length ≤ 1048576 by have := grp_len (allI ms ms.length); have := allI_len ms; omega)
  have HOK := Lib.hid hok
  have HMS := Lib.hid hS
  obtain ⟨G, hG⟩ : ∃ G, grp (allI ms ms.length) = G := ⟨_, rfl⟩
  rw [hG] at HAL HST HMD HLL
  obtain ⟨E, hE⟩ : ∃ E, tblE G = E := ⟨_, rfl⟩
  rw [hE] at HAL
  obtain ⟨nm, hnm⟩ : ∃ n, ms.length = n := ⟨_, rfl⟩
  have hnm9 : (nm : Int) ≤ 9223372036854775807 := by omega
  have HNM := Lib.hid (show ms.length ≤ nm ∧ nm ≤ ms.length by omega)
  rw [hnm] at HAL HMS HRI HMD ⊢
  obtain ⟨RR, hRR⟩ : ∃ b, (ms.all fun m => checkE m == 0) = b := ⟨_, rfl⟩
  rw [hRR] at HRI HST
  clear hE hnm hT hok hsum hlen hS hG hRR
  go_enter Try.func9, Try.ntmps9
  go_wp2_with fail
  refine (rshown_any w).mono ?_
  rintro r w1 ⟨rfl, hb1⟩
  have HB1 := Lib.hid hb1
  clear hb1
  go_wp2_with fail
  refine (HAL.out _ HB1.out).mono ?_
  rintro r w2 ⟨v1, rfl, hd1, hb2⟩
  have HB2 := Lib.hid (bthen HB1.out hb2)
  clear hb2
  by_cases hE0 : E = 0
  case neg =>
    clear hd1
    go_wp2_with fail
    go_ret
    exact ⟨rfl, HB2.out⟩
  subst hE0
  rw [allD_ok] at hd1
  obtain ⟨A1, c1, e1⟩ := hd1.slice
  obtain ⟨n, hn⟩ : ∃ n, (G.map defG).length = n := ⟨_, rfl⟩
  rw [hn] at e1
  subst e1
  have HD := Lib.hid hd1
  have HN := Lib.hid (show (G.map defG).length ≤ n ∧ n ≤ (G.map defG).length by omega)
  have n9 : (n : Int) ≤ 9223372036854775807 := by have := HLL.out; rw [List.length_map] at hn; omega
  have HM2 := Lib.hid (HMS.out.next HB2.out)
  clear hd1 hn HAL
  go_wp2_with fail
  go_loopw [6] (fun iv wr => ∃ i : Nat, i ≤ n ∧ iv = .int .i64 i ∧ Below w2.heap.size w2 wr) (fun iv _ => n - (intOf iv).toNat)
  case atStart => exact ⟨0, Nat.zero_le _, rfl, Below.refl _ _⟩
  case round =>
    obtain ⟨i, hi, rfl, hb⟩ := hrel
    have HB := Lib.hid hb
    by_cases hlt : i < n
    case neg =>
      have hd : decide ((i : Int) < (n : Int)) = false := by simp; omega
      clear hb
      go_wp2_with fail
      go_ret
      exact ⟨rfl, bthen HB2.out HB.out⟩
    have hl : i < (G.map defG).length := by have := HN.out; omega
    have hgl : i < G.length := by simpa using hl
    obtain ⟨b1, off1, hA1, hbl1, g0, g1, -, g3, -⟩ := RowOf.at_ HD.out hl
    subst hA1
    rw [List.getElem_map] at g0 g1 g3
    have HSS := Lib.hid (fun (h : RR = true) => HST.out _ (List.getElem_mem hgl) h)
    obtain ⟨o0, o1⟩ := HMD.out _ (List.getElem_mem hgl)
    obtain ⟨jm, hjm⟩ : ∃ j : Nat, (defG G[i]).o = (j : Int) := ⟨(defG G[i]).o.toNat, by omega⟩
    rw [hjm] at g1 o1
    obtain ⟨s, hs⟩ : ∃ s, (defG G[i]).s = s := ⟨_, rfl⟩
    obtain ⟨dw, hdw⟩ : ∃ s, (defG G[i]).w = s := ⟨_, rfl⟩
    rw [hs] at g0 HSS
    rw [hdw] at g3 HSS
    have HDC := Lib.hid (fun (U : World) (hU : Below w2.heap.size w2 U) => (show U.cell? ⟨b1, off1 + i * 5, none⟩ = some (.string s) ∧ U.cell? ⟨b1, off1 + i * 5 + 1, none⟩ = some (.int .i64 jm) ∧ U.cell? ⟨b1, off1 + i * 5 + 3, none⟩ = some (.bool dw) from ⟨(cellNext hbl1 hU _).trans g0, (cellNext hbl1 hU _).trans g1, (cellNext hbl1 hU _).trans g3⟩))
    have i0 : (0 : Int) ≤ (i : Int) := Int.natCast_nonneg _
    have i1 : (i : Int) < (n : Int) := by omega
    have jm0 : (0 : Int) ≤ (jm : Int) := Int.natCast_nonneg _
    have HLT := Lib.hid hlt
    clear hlt hl hgl hbl1 hb g0 g1 g3 hs hdw hjm o0
    go_wp2_with fail
    go_loopw [7, 8] (fun av kv wi => ∃ k : Nat, k ≤ nm ∧ kv = .int .i64 k ∧ av = .bool ((ms.take k).any fun m => stF m s || stG m s) ∧ Below w2.heap.size w2 wi) (fun _ kv _ => nm - (intOf kv).toNat)
    case atStart => exact ⟨0, Nat.zero_le _, rfl, rfl, HB.out⟩
    case round =>
      obtain ⟨k, hk, rfl, rfl, hbi⟩ := hrel
      have HBI := Lib.hid hbi
      by_cases hlk : k < nm
      case neg =>
        have hdd : decide ((k : Int) < (nm : Int)) = false := by simp; omega
        have HTA := Lib.hid (show ms.take k = ms from List.take_of_length_le (by have := HNM.out; omega))
        rw [HTA.out]
        obtain ⟨S, hS⟩ : ∃ b, (ms.any fun m => stF m s || stG m s) = b := ⟨_, rfl⟩
        rw [hS] at HSS ⊢
        have hj : jm < ms.length := by have := HNM.out; omega
        obtain ⟨b2, off2, hA2, hbl2, F, cf, Gv, cg, m0, m1, hmd⟩ := RowOf.at_ (HM2.out.next hbi) hj
        subst hA2
        have hmo := HOK.out _ (List.getElem_mem hj)
        have HCK := Lib.hid (refCheck_any ms[jm] F Gv _ cf _ cg wr hmo.1 hmo.2 rfl rfl hmd)
        obtain ⟨e, he⟩ : ∃ e, checkE ms[jm] = e := ⟨_, rfl⟩
        obtain ⟨nf, hnf⟩ : ∃ q, ms[jm].f.length = q := ⟨_, rfl⟩
        obtain ⟨ng, hng⟩ : ∃ q, ms[jm].g.length = q := ⟨_, rfl⟩
        rw [he] at HCK
        rw [hnf] at m0 HCK
        rw [hng] at m1 HCK
        obtain ⟨q0, q1, q3⟩ := HDC.out _ hbi
        clear hS hj hbl2 hmd hmo he hnf hng hbi
        go_wp2_with fail
        refine HCK.out.mono ?_
        rintro r w5 ⟨rfl, hb5⟩
        have HB5 := Lib.hid (bthen HBI.out hb5)
        obtain ⟨q0, q1, q3⟩ := HDC.out _ HB5.out
        clear hb5
        by_cases he0 : e = 0
        · subst he0
          cases hsw : (S == dw) with
          | true =>
            have esw : S = dw := by simpa using hsw
            subst esw
            have hRF : RR = false := by
              cases hR : RR with
              | false => rfl
              | true =>
                have h := HSS.out hR
                cases S <;> simp at h
            subst hRF
            clear hsw
            go_wp2_with fail
            refine (HRI.out _ (bthen HB2.out HB5.out)).mono ?_
            rintro r w6 ⟨rfl, hb6⟩
            have HB6 := Lib.hid (bthen HB5.out hb6)
            clear hb6
            go_wp2_with fail
            go_roundw
            case rel => exact ⟨i + 1, HLT.out, by go_num, HB6.out⟩
            case measure => have := HLT.out; simp [intOf]; omega
          | false =>
            go_wp2_with fail
            go_roundw
            case rel => exact ⟨i + 1, HLT.out, by go_num, HB5.out⟩
            case measure => have := HLT.out; simp [intOf]; omega
        · have he2 : (e == 0) = false := by simpa using he0
          go_wp2_with fail
          go_roundw
          case rel => exact ⟨i + 1, HLT.out, by go_num, HB5.out⟩
          case measure => have := HLT.out; simp [intOf]; omega
      have hkm : k < ms.length := by have := HNM.out; omega
      obtain ⟨b2, off2, hA2, hbl2, F, cf, Gv, cg, m0, m1, hmd⟩ := RowOf.at_ HM2.out hkm
      subst hA2
      have hmo := HOK.out _ (List.getElem_mem hkm)
      have HTK := Lib.hid (show ((ms.take (k + 1)).any fun m => stF m s || stG m s) = (((ms.take k).any fun m => stF m s || stG m s) || (stF ms[k] s || stG ms[k] s)) by rw [List.take_succ_eq_append_getElem hkm, List.any_append]; simp)
      obtain ⟨acc, hacc⟩ : ∃ b, ((ms.take k).any fun m => stF m s || stG m s) = b := ⟨_, rfl⟩
      rw [hacc] at HTK ⊢
      obtain ⟨m, hm⟩ : ∃ m, ms[k] = m := ⟨_, rfl⟩
      rw [hm] at m0 m1 hmd hmo HTK
      obtain ⟨nf, hnf⟩ : ∃ q, m.f.length = q := ⟨_, rfl⟩
      obtain ⟨ng, hng⟩ : ∃ q, m.g.length = q := ⟨_, rfl⟩
      rw [hnf] at m0 hmd
      rw [hng] at m1 hmd
      have HC0 := Lib.hid (fun (U : World) (hU : Below w2.heap.size w2 U) => (show U.cell? ⟨b2, off2 + k * 2, none⟩ = some (.slice F nf cf) ∧ U.cell? ⟨b2, off2 + k * 2 + 1, none⟩ = some (.slice Gv ng cg) ∧ U.cell? ⟨b1, off1 + i * 5, none⟩ = some (.string s) from ⟨(cellNext hbl2 hU _).trans m0, (cellNext hbl2 hU _).trans m1, (HDC.out U hU).1⟩))
      have HFF := Lib.hid (fun (U : World) (hU : Below w2.heap.size w2 U) => findFunc_any m F Gv nf cf ng cg s U hmo.1 hnf (hmd.next hU))
      have HFG := Lib.hid (fun (U : World) (hU : Below w2.heap.size w2 U) => findGlob_any m F Gv nf cf ng cg s U hmo.1 hng (hmd.next hU))
      have HFR := Lib.hid hmd.1
      have HGG := Lib.hid hmd.2
      have HNF := Lib.hid (show m.f.length ≤ nf ∧ nf ≤ m.f.length by omega)
      have HNG := Lib.hid (show m.g.length ≤ ng ∧ ng ≤ m.g.length by omega)
      have kk0 : (0 : Int) ≤ (k : Int) := Int.natCast_nonneg _
      have kk1 : (k : Int) < (nm : Int) := by omega
      have HLK := Lib.hid hlk
      clear hm hkm hlk hacc hbl2 hbi hmd hmo hnf hng m0 m1
      cases acc with
      | true =>
        obtain ⟨xf, hxf⟩ : ∃ x, idxE (fIdx (m.f.map (·.s)) s) = x := ⟨_, rfl⟩
        obtain ⟨xg, hxg⟩ : ∃ x, idxE (fIdx (m.g.map (·.s)) s) = x := ⟨_, rfl⟩
        rw [hxf] at HFF
        rw [hxg] at HFG
        clear hxf hxg
        have HV := Lib.hid (show ((ms.take (k + 1)).any fun m => stF m s || stG m s) = true from by rw [HTK.out]; rfl)
        have e0 := fun (p : Past wr) => (HC0.out p.W (bthen HBI.out p.h)).1
        have e1 := fun (p : Past wr) => (HC0.out p.W (bthen HBI.out p.h)).2.1
        have e2 := fun (p : Past wr) => (HC0.out p.W (bthen HBI.out p.h)).2.2
        have HPF := Lib.hid (fun (p : Past wr) => HFF.out p.W (bthen HBI.out p.h))
        go_upto_region 12 with fail
        refine wp_region_past (by kernel_rfl) (by kernel_rfl) ?_
        repeat (go_big_quiet_step (first | (go_at_call 29; refine past_of (HPF.out _))))
        refine wpQuiet_nil ?_
        rintro W9 ⟨⟨X9, hb9⟩, e9⟩
        dsimp only at e9
        subst e9
        have HB9 := Lib.hid (bthen HBI.out hb9)
        clear e0 e1 e2 hb9 HPF
        have e0 := fun (p : Past W9) => (HC0.out p.W (bthen HB9.out p.h)).1
        have e1 := fun (p : Past W9) => (HC0.out p.W (bthen HB9.out p.h)).2.1
        have e2 := fun (p : Past W9) => (HC0.out p.W (bthen HB9.out p.h)).2.2
        have HPG := Lib.hid (fun (p : Past W9) => HFG.out p.W (bthen HB9.out p.h))
        go_upto_region 13 with fail
        refine wp_region_past (by kernel_rfl) (by kernel_rfl) ?_
        repeat (go_big_quiet_step (first | (go_at_call 30; refine past_of (HPG.out _))))
        refine wpQuiet_nil ?_
        rintro W10 ⟨⟨X10, hb10⟩, e10⟩
        dsimp only at e10
        subst e10
        have HBW := Lib.hid (bthen HB9.out hb10)
        clear e0 e1 e2 hb10 HPG
        obtain ⟨z0, z1, z2⟩ := HC0.out W10 HBW.out
        go_wp2_with fail
        go_roundw
        case rel => exact ⟨k + 1, HLK.out, by go_num, by rw [HV.out], HBW.out⟩
        case measure => have := HLK.out; simp [intOf]; omega
      | false =>
        cases hfi : fIdx (m.f.map (·.s)) s with
        | none =>
          rw [hfi] at HFF
          have HVF := Lib.hid (show stF m s = false by unfold stF; rw [hfi])
          simp only [idxE] at HFF
          clear hfi
          cases hgi : fIdx (m.g.map (·.s)) s with
          | none =>
            rw [hgi] at HFG
            have HVG := Lib.hid (show stG m s = false by unfold stG; rw [hgi])
            simp only [idxE] at HFG
            clear hgi
            have HV := Lib.hid (show ((ms.take (k + 1)).any fun m => stF m s || stG m s) = false from by rw [HTK.out, HVF.out, HVG.out]; rfl)
            have e0 := fun (p : Past wr) => (HC0.out p.W (bthen HBI.out p.h)).1
            have e1 := fun (p : Past wr) => (HC0.out p.W (bthen HBI.out p.h)).2.1
            have e2 := fun (p : Past wr) => (HC0.out p.W (bthen HBI.out p.h)).2.2
            have HPF := Lib.hid (fun (p : Past wr) => HFF.out p.W (bthen HBI.out p.h))
            go_upto_region 12 with fail
            refine wp_region_past (by kernel_rfl) (by kernel_rfl) ?_
            repeat (go_big_quiet_step (first | (go_at_call 29; refine past_of (HPF.out _))))
            refine wpQuiet_nil ?_
            rintro W9 ⟨⟨X9, hb9⟩, e9⟩
            dsimp only at e9
            subst e9
            have HB9 := Lib.hid (bthen HBI.out hb9)
            clear e0 e1 e2 hb9 HPF
            have e0 := fun (p : Past W9) => (HC0.out p.W (bthen HB9.out p.h)).1
            have e1 := fun (p : Past W9) => (HC0.out p.W (bthen HB9.out p.h)).2.1
            have e2 := fun (p : Past W9) => (HC0.out p.W (bthen HB9.out p.h)).2.2
            have HPG := Lib.hid (fun (p : Past W9) => HFG.out p.W (bthen HB9.out p.h))
            go_upto_region 13 with fail
            refine wp_region_past (by kernel_rfl) (by kernel_rfl) ?_
            repeat (go_big_quiet_step (first | (go_at_call 30; refine past_of (HPG.out _))))
            refine wpQuiet_nil ?_
            rintro W10 ⟨⟨X10, hb10⟩, e10⟩
            dsimp only at e10
            subst e10
            have HBW := Lib.hid (bthen HB9.out hb10)
            clear e0 e1 e2 hb10 HPG
            obtain ⟨z0, z1, z2⟩ := HC0.out W10 HBW.out
            go_wp2_with fail
            go_roundw
            case rel => exact ⟨k + 1, HLK.out, by go_num, by rw [HV.out], HBW.out⟩
            case measure => have := HLK.out; simp [intOf]; omega
          | some jg =>
            obtain ⟨hjg, -⟩ := fIdx_get hgi
            have hjg2 : jg < m.g.length := by simpa using hjg
            have HVG0 := Lib.hid (show stG m s = (m.g[jg].b == 2 && m.g[jg].h) by unfold stG; rw [hgi]; simp only [List.getElem?_eq_getElem hjg2])
            rw [hgi] at HFG
            simp only [idxE] at HFG
            obtain ⟨b6, off6, hA6, hbl6, -, y6, y7, -⟩ := RowOf.at_ HGG.out hjg2
            subst hA6
            obtain ⟨bg, hbg⟩ : ∃ b, m.g[jg].b = b := ⟨_, rfl⟩
            obtain ⟨hg, hhg⟩ : ∃ b, m.g[jg].h = b := ⟨_, rfl⟩
            rw [hbg] at y6 HVG0
            rw [hhg] at y7 HVG0
            have HXG := Lib.hid (fun (U : World) (hU : Below w2.heap.size w2 U) => (show U.cell? ⟨b6, off6 + jg * 4 + 1, none⟩ = some (.int .i64 bg) ∧ U.cell? ⟨b6, off6 + jg * 4 + 2, none⟩ = some (.bool hg) from ⟨(cellNext hbl6 hU _).trans y6, (cellNext hbl6 hU _).trans y7⟩))
            have jg0 : (0 : Int) ≤ (jg : Int) := Int.natCast_nonneg _
            have jg1 : (jg : Int) < (ng : Int) := by have := HNG.out; omega
            have jg2 : decide (0 ≤ (jg : Int)) = true := by simp
            clear hgi hjg hjg2 hbg hhg y6 y7 hbl6
            by_cases e6 : bg = 2
            · subst e6
              cases hg with
              | true =>
                have HV := Lib.hid (show ((ms.take (k + 1)).any fun m => stF m s || stG m s) = true from by rw [HTK.out, HVF.out, HVG0.out]; rfl)
                have e0 := fun (p : Past wr) => (HC0.out p.W (bthen HBI.out p.h)).1
                have e1 := fun (p : Past wr) => (HC0.out p.W (bthen HBI.out p.h)).2.1
                have e2 := fun (p : Past wr) => (HC0.out p.W (bthen HBI.out p.h)).2.2
                have HPF := Lib.hid (fun (p : Past wr) => HFF.out p.W (bthen HBI.out p.h))
                go_upto_region 12 with fail
                refine wp_region_past (by kernel_rfl) (by kernel_rfl) ?_
                repeat (go_big_quiet_step (first | (go_at_call 29; refine past_of (HPF.out _))))
                refine wpQuiet_nil ?_
                rintro W9 ⟨⟨X9, hb9⟩, e9⟩
                dsimp only at e9
                subst e9
                have HB9 := Lib.hid (bthen HBI.out hb9)
                clear e0 e1 e2 hb9 HPF
                have e0 := fun (p : Past W9) => (HC0.out p.W (bthen HB9.out p.h)).1
                have e1 := fun (p : Past W9) => (HC0.out p.W (bthen HB9.out p.h)).2.1
                have e2 := fun (p : Past W9) => (HC0.out p.W (bthen HB9.out p.h)).2.2
                have HPG := Lib.hid (fun (p : Past W9) => HFG.out p.W (bthen HB9.out p.h))
                go_upto_region 13 with fail
                refine wp_region_past (by kernel_rfl) (by kernel_rfl) ?_
                repeat (go_big_quiet_step (first | (go_at_call 30; refine past_of (HPG.out _))))
                refine wpQuiet_nil ?_
                rintro W10 ⟨⟨X10, hb10⟩, e10⟩
                dsimp only at e10
                subst e10
                have HBW := Lib.hid (bthen HB9.out hb10)
                clear e0 e1 e2 hb10 HPG
                obtain ⟨z0, z1, z2⟩ := HC0.out W10 HBW.out
                obtain ⟨x1, x2⟩ := HXG.out W10 HBW.out
                go_wp2_with fail
                go_roundw
                case rel => exact ⟨k + 1, HLK.out, by go_num, by rw [HV.out], HBW.out⟩
                case measure => have := HLK.out; simp [intOf]; omega
              | false =>
                have HV := Lib.hid (show ((ms.take (k + 1)).any fun m => stF m s || stG m s) = false from by rw [HTK.out, HVF.out, HVG0.out]; rfl)
                have e0 := fun (p : Past wr) => (HC0.out p.W (bthen HBI.out p.h)).1
                have e1 := fun (p : Past wr) => (HC0.out p.W (bthen HBI.out p.h)).2.1
                have e2 := fun (p : Past wr) => (HC0.out p.W (bthen HBI.out p.h)).2.2
                have HPF := Lib.hid (fun (p : Past wr) => HFF.out p.W (bthen HBI.out p.h))
                go_upto_region 12 with fail
                refine wp_region_past (by kernel_rfl) (by kernel_rfl) ?_
                repeat (go_big_quiet_step (first | (go_at_call 29; refine past_of (HPF.out _))))
                refine wpQuiet_nil ?_
                rintro W9 ⟨⟨X9, hb9⟩, e9⟩
                dsimp only at e9
                subst e9
                have HB9 := Lib.hid (bthen HBI.out hb9)
                clear e0 e1 e2 hb9 HPF
                have e0 := fun (p : Past W9) => (HC0.out p.W (bthen HB9.out p.h)).1
                have e1 := fun (p : Past W9) => (HC0.out p.W (bthen HB9.out p.h)).2.1
                have e2 := fun (p : Past W9) => (HC0.out p.W (bthen HB9.out p.h)).2.2
                have HPG := Lib.hid (fun (p : Past W9) => HFG.out p.W (bthen HB9.out p.h))
                go_upto_region 13 with fail
                refine wp_region_past (by kernel_rfl) (by kernel_rfl) ?_
                repeat (go_big_quiet_step (first | (go_at_call 30; refine past_of (HPG.out _))))
                refine wpQuiet_nil ?_
                rintro W10 ⟨⟨X10, hb10⟩, e10⟩
                dsimp only at e10
                subst e10
                have HBW := Lib.hid (bthen HB9.out hb10)
                clear e0 e1 e2 hb10 HPG
                obtain ⟨z0, z1, z2⟩ := HC0.out W10 HBW.out
                obtain ⟨x1, x2⟩ := HXG.out W10 HBW.out
                go_wp2_with fail
                go_roundw
                case rel => exact ⟨k + 1, HLK.out, by go_num, by rw [HV.out], HBW.out⟩
                case measure => have := HLK.out; simp [intOf]; omega
            · have h6 : (bg == 2) = false := by simpa using e6
              have HV := Lib.hid (show ((ms.take (k + 1)).any fun m => stF m s || stG m s) = false from by rw [HTK.out, HVF.out, HVG0.out, h6]; rfl)
              have e0 := fun (p : Past wr) => (HC0.out p.W (bthen HBI.out p.h)).1
              have e1 := fun (p : Past wr) => (HC0.out p.W (bthen HBI.out p.h)).2.1
              have e2 := fun (p : Past wr) => (HC0.out p.W (bthen HBI.out p.h)).2.2
              have HPF := Lib.hid (fun (p : Past wr) => HFF.out p.W (bthen HBI.out p.h))
              go_upto_region 12 with fail
              refine wp_region_past (by kernel_rfl) (by kernel_rfl) ?_
              repeat (go_big_quiet_step (first | (go_at_call 29; refine past_of (HPF.out _))))
              refine wpQuiet_nil ?_
              rintro W9 ⟨⟨X9, hb9⟩, e9⟩
              dsimp only at e9
              subst e9
              have HB9 := Lib.hid (bthen HBI.out hb9)
              clear e0 e1 e2 hb9 HPF
              have e0 := fun (p : Past W9) => (HC0.out p.W (bthen HB9.out p.h)).1
              have e1 := fun (p : Past W9) => (HC0.out p.W (bthen HB9.out p.h)).2.1
              have e2 := fun (p : Past W9) => (HC0.out p.W (bthen HB9.out p.h)).2.2
              have HPG := Lib.hid (fun (p : Past W9) => HFG.out p.W (bthen HB9.out p.h))
              go_upto_region 13 with fail
              refine wp_region_past (by kernel_rfl) (by kernel_rfl) ?_
              repeat (go_big_quiet_step (first | (go_at_call 30; refine past_of (HPG.out _))))
              refine wpQuiet_nil ?_
              rintro W10 ⟨⟨X10, hb10⟩, e10⟩
              dsimp only at e10
              subst e10
              have HBW := Lib.hid (bthen HB9.out hb10)
              clear e0 e1 e2 hb10 HPG
              obtain ⟨z0, z1, z2⟩ := HC0.out W10 HBW.out
              obtain ⟨x1, x2⟩ := HXG.out W10 HBW.out
              go_wp2_with fail
              go_roundw
              case rel => exact ⟨k + 1, HLK.out, by go_num, by rw [HV.out], HBW.out⟩
              case measure => have := HLK.out; simp [intOf]; omega
        | some jf =>
          obtain ⟨hjf, -⟩ := fIdx_get hfi
          have hjf2 : jf < m.f.length := by simpa using hjf
          have HVF0 := Lib.hid (show stF m s = (m.f[jf].b == 2 && decide (0 < m.f[jf].l.length)) by unfold stF; rw [hfi]; simp only [List.getElem?_eq_getElem hjf2])
          rw [hfi] at HFF
          simp only [idxE] at HFF
          obtain ⟨b5, off5, hA5, hbl5, -, y3, -, A4, z4, y4, -⟩ := RowOf.at_ HFR.out hjf2
          subst hA5
          obtain ⟨bf, hbf⟩ : ∃ b, m.f[jf].b = b := ⟨_, rfl⟩
          obtain ⟨l4, hl4⟩ : ∃ b, m.f[jf].l.length = b := ⟨_, rfl⟩
          rw [hbf] at y3 HVF0
          rw [hl4] at y4 HVF0
          have HXF := Lib.hid (fun (U : World) (hU : Below w2.heap.size w2 U) => (show U.cell? ⟨b5, off5 + jf * 4 + 1, none⟩ = some (.int .i64 bf) ∧ U.cell? ⟨b5, off5 + jf * 4 + 3, none⟩ = some (.slice A4 l4 z4) from ⟨(cellNext hbl5 hU _).trans y3, (cellNext hbl5 hU _).trans y4⟩))
          have jf0 : (0 : Int) ≤ (jf : Int) := Int.natCast_nonneg _
          have jf1 : (jf : Int) < (nf : Int) := by have := HNF.out; omega
          have jf2 : decide (0 ≤ (jf : Int)) = true := by simp
          have l40 : (0 : Int) ≤ (l4 : Int) := Int.natCast_nonneg _
          clear hfi hjf hjf2 hbf hl4 y3 y4 hbl5
          by_cases e5 : bf = 2
          · subst e5
            by_cases e4 : l4 = 0
            · subst e4
              have HVF := Lib.hid (show stF m s = false by rw [HVF0.out]; rfl)
              cases hgi : fIdx (m.g.map (·.s)) s with
              | none =>
                rw [hgi] at HFG
                have HVG := Lib.hid (show stG m s = false by unfold stG; rw [hgi])
                simp only [idxE] at HFG
                clear hgi
                have HV := Lib.hid (show ((ms.take (k + 1)).any fun m => stF m s || stG m s) = false from by rw [HTK.out, HVF.out, HVG.out]; rfl)
                have e0 := fun (p : Past wr) => (HC0.out p.W (bthen HBI.out p.h)).1
                have e1 := fun (p : Past wr) => (HC0.out p.W (bthen HBI.out p.h)).2.1
                have e2 := fun (p : Past wr) => (HC0.out p.W (bthen HBI.out p.h)).2.2
                have HPF := Lib.hid (fun (p : Past wr) => HFF.out p.W (bthen HBI.out p.h))
                go_upto_region 12 with fail
                refine wp_region_past (by kernel_rfl) (by kernel_rfl) ?_
                repeat (go_big_quiet_step (first | (go_at_call 29; refine past_of (HPF.out _))))
                refine wpQuiet_nil ?_
                rintro W9 ⟨⟨X9, hb9⟩, e9⟩
                dsimp only at e9
                subst e9
                have HB9 := Lib.hid (bthen HBI.out hb9)
                clear e0 e1 e2 hb9 HPF
                have e0 := fun (p : Past W9) => (HC0.out p.W (bthen HB9.out p.h)).1
                have e1 := fun (p : Past W9) => (HC0.out p.W (bthen HB9.out p.h)).2.1
                have e2 := fun (p : Past W9) => (HC0.out p.W (bthen HB9.out p.h)).2.2
                have HPG := Lib.hid (fun (p : Past W9) => HFG.out p.W (bthen HB9.out p.h))
                go_upto_region 13 with fail
                refine wp_region_past (by kernel_rfl) (by kernel_rfl) ?_
                repeat (go_big_quiet_step (first | (go_at_call 30; refine past_of (HPG.out _))))
                refine wpQuiet_nil ?_
                rintro W10 ⟨⟨X10, hb10⟩, e10⟩
                dsimp only at e10
                subst e10
                have HBW := Lib.hid (bthen HB9.out hb10)
                clear e0 e1 e2 hb10 HPG
                obtain ⟨z0, z1, z2⟩ := HC0.out W10 HBW.out
                obtain ⟨y1, y2⟩ := HXF.out W10 HBW.out
                go_wp2_with fail
                go_roundw
                case rel => exact ⟨k + 1, HLK.out, by go_num, by rw [HV.out], HBW.out⟩
                case measure => have := HLK.out; simp [intOf]; omega
              | some jg =>
                obtain ⟨hjg, -⟩ := fIdx_get hgi
                have hjg2 : jg < m.g.length := by simpa using hjg
                have HVG0 := Lib.hid (show stG m s = (m.g[jg].b == 2 && m.g[jg].h) by unfold stG; rw [hgi]; simp only [List.getElem?_eq_getElem hjg2])
                rw [hgi] at HFG
                simp only [idxE] at HFG
                obtain ⟨b6, off6, hA6, hbl6, -, y6, y7, -⟩ := RowOf.at_ HGG.out hjg2
                subst hA6
                obtain ⟨bg, hbg⟩ : ∃ b, m.g[jg].b = b := ⟨_, rfl⟩
                obtain ⟨hg, hhg⟩ : ∃ b, m.g[jg].h = b := ⟨_, rfl⟩
                rw [hbg] at y6 HVG0
                rw [hhg] at y7 HVG0
                have HXG := Lib.hid (fun (U : World) (hU : Below w2.heap.size w2 U) => (show U.cell? ⟨b6, off6 + jg * 4 + 1, none⟩ = some (.int .i64 bg) ∧ U.cell? ⟨b6, off6 + jg * 4 + 2, none⟩ = some (.bool hg) from ⟨(cellNext hbl6 hU _).trans y6, (cellNext hbl6 hU _).trans y7⟩))
                have jg0 : (0 : Int) ≤ (jg : Int) := Int.natCast_nonneg _
                have jg1 : (jg : Int) < (ng : Int) := by have := HNG.out; omega
                have jg2 : decide (0 ≤ (jg : Int)) = true := by simp
                clear hgi hjg hjg2 hbg hhg y6 y7 hbl6
                by_cases e6 : bg = 2
                · subst e6
                  cases hg with
                  | true =>
                    have HV := Lib.hid (show ((ms.take (k + 1)).any fun m => stF m s || stG m s) = true from by rw [HTK.out, HVF.out, HVG0.out]; rfl)
                    have e0 := fun (p : Past wr) => (HC0.out p.W (bthen HBI.out p.h)).1
                    have e1 := fun (p : Past wr) => (HC0.out p.W (bthen HBI.out p.h)).2.1
                    have e2 := fun (p : Past wr) => (HC0.out p.W (bthen HBI.out p.h)).2.2
                    have HPF := Lib.hid (fun (p : Past wr) => HFF.out p.W (bthen HBI.out p.h))
                    go_upto_region 12 with fail
                    refine wp_region_past (by kernel_rfl) (by kernel_rfl) ?_
                    repeat (go_big_quiet_step (first | (go_at_call 29; refine past_of (HPF.out _))))
                    refine wpQuiet_nil ?_
                    rintro W9 ⟨⟨X9, hb9⟩, e9⟩
                    dsimp only at e9
                    subst e9
                    have HB9 := Lib.hid (bthen HBI.out hb9)
                    clear e0 e1 e2 hb9 HPF
                    have e0 := fun (p : Past W9) => (HC0.out p.W (bthen HB9.out p.h)).1
                    have e1 := fun (p : Past W9) => (HC0.out p.W (bthen HB9.out p.h)).2.1
                    have e2 := fun (p : Past W9) => (HC0.out p.W (bthen HB9.out p.h)).2.2
                    have HPG := Lib.hid (fun (p : Past W9) => HFG.out p.W (bthen HB9.out p.h))
                    go_upto_region 13 with fail
                    refine wp_region_past (by kernel_rfl) (by kernel_rfl) ?_
                    repeat (go_big_quiet_step (first | (go_at_call 30; refine past_of (HPG.out _))))
                    refine wpQuiet_nil ?_
                    rintro W10 ⟨⟨X10, hb10⟩, e10⟩
                    dsimp only at e10
                    subst e10
                    have HBW := Lib.hid (bthen HB9.out hb10)
                    clear e0 e1 e2 hb10 HPG
                    obtain ⟨z0, z1, z2⟩ := HC0.out W10 HBW.out
                    obtain ⟨y1, y2⟩ := HXF.out W10 HBW.out
                    obtain ⟨x1, x2⟩ := HXG.out W10 HBW.out
                    go_wp2_with fail
                    go_roundw
                    case rel => exact ⟨k + 1, HLK.out, by go_num, by rw [HV.out], HBW.out⟩
                    case measure => have := HLK.out; simp [intOf]; omega
                  | false =>
                    have HV := Lib.hid (show ((ms.take (k + 1)).any fun m => stF m s || stG m s) = false from by rw [HTK.out, HVF.out, HVG0.out]; rfl)
                    have e0 := fun (p : Past wr) => (HC0.out p.W (bthen HBI.out p.h)).1
                    have e1 := fun (p : Past wr) => (HC0.out p.W (bthen HBI.out p.h)).2.1
                    have e2 := fun (p : Past wr) => (HC0.out p.W (bthen HBI.out p.h)).2.2
                    have HPF := Lib.hid (fun (p : Past wr) => HFF.out p.W (bthen HBI.out p.h))
                    go_upto_region 12 with fail
                    refine wp_region_past (by kernel_rfl) (by kernel_rfl) ?_
                    repeat (go_big_quiet_step (first | (go_at_call 29; refine past_of (HPF.out _))))
                    refine wpQuiet_nil ?_
                    rintro W9 ⟨⟨X9, hb9⟩, e9⟩
                    dsimp only at e9
                    subst e9
                    have HB9 := Lib.hid (bthen HBI.out hb9)
                    clear e0 e1 e2 hb9 HPF
                    have e0 := fun (p : Past W9) => (HC0.out p.W (bthen HB9.out p.h)).1
                    have e1 := fun (p : Past W9) => (HC0.out p.W (bthen HB9.out p.h)).2.1
                    have e2 := fun (p : Past W9) => (HC0.out p.W (bthen HB9.out p.h)).2.2
                    have HPG := Lib.hid (fun (p : Past W9) => HFG.out p.W (bthen HB9.out p.h))
                    go_upto_region 13 with fail
                    refine wp_region_past (by kernel_rfl) (by kernel_rfl) ?_
                    repeat (go_big_quiet_step (first | (go_at_call 30; refine past_of (HPG.out _))))
                    refine wpQuiet_nil ?_
                    rintro W10 ⟨⟨X10, hb10⟩, e10⟩
                    dsimp only at e10
                    subst e10
                    have HBW := Lib.hid (bthen HB9.out hb10)
                    clear e0 e1 e2 hb10 HPG
                    obtain ⟨z0, z1, z2⟩ := HC0.out W10 HBW.out
                    obtain ⟨y1, y2⟩ := HXF.out W10 HBW.out
                    obtain ⟨x1, x2⟩ := HXG.out W10 HBW.out
                    go_wp2_with fail
                    go_roundw
                    case rel => exact ⟨k + 1, HLK.out, by go_num, by rw [HV.out], HBW.out⟩
                    case measure => have := HLK.out; simp [intOf]; omega
                · have h6 : (bg == 2) = false := by simpa using e6
                  have HV := Lib.hid (show ((ms.take (k + 1)).any fun m => stF m s || stG m s) = false from by rw [HTK.out, HVF.out, HVG0.out, h6]; rfl)
                  have e0 := fun (p : Past wr) => (HC0.out p.W (bthen HBI.out p.h)).1
                  have e1 := fun (p : Past wr) => (HC0.out p.W (bthen HBI.out p.h)).2.1
                  have e2 := fun (p : Past wr) => (HC0.out p.W (bthen HBI.out p.h)).2.2
                  have HPF := Lib.hid (fun (p : Past wr) => HFF.out p.W (bthen HBI.out p.h))
                  go_upto_region 12 with fail
                  refine wp_region_past (by kernel_rfl) (by kernel_rfl) ?_
                  repeat (go_big_quiet_step (first | (go_at_call 29; refine past_of (HPF.out _))))
                  refine wpQuiet_nil ?_
                  rintro W9 ⟨⟨X9, hb9⟩, e9⟩
                  dsimp only at e9
                  subst e9
                  have HB9 := Lib.hid (bthen HBI.out hb9)
                  clear e0 e1 e2 hb9 HPF
                  have e0 := fun (p : Past W9) => (HC0.out p.W (bthen HB9.out p.h)).1
                  have e1 := fun (p : Past W9) => (HC0.out p.W (bthen HB9.out p.h)).2.1
                  have e2 := fun (p : Past W9) => (HC0.out p.W (bthen HB9.out p.h)).2.2
                  have HPG := Lib.hid (fun (p : Past W9) => HFG.out p.W (bthen HB9.out p.h))
                  go_upto_region 13 with fail
                  refine wp_region_past (by kernel_rfl) (by kernel_rfl) ?_
                  repeat (go_big_quiet_step (first | (go_at_call 30; refine past_of (HPG.out _))))
                  refine wpQuiet_nil ?_
                  rintro W10 ⟨⟨X10, hb10⟩, e10⟩
                  dsimp only at e10
                  subst e10
                  have HBW := Lib.hid (bthen HB9.out hb10)
                  clear e0 e1 e2 hb10 HPG
                  obtain ⟨z0, z1, z2⟩ := HC0.out W10 HBW.out
                  obtain ⟨y1, y2⟩ := HXF.out W10 HBW.out
                  obtain ⟨x1, x2⟩ := HXG.out W10 HBW.out
                  go_wp2_with fail
                  go_roundw
                  case rel => exact ⟨k + 1, HLK.out, by go_num, by rw [HV.out], HBW.out⟩
                  case measure => have := HLK.out; simp [intOf]; omega
            · have h4 : 0 < l4 := by omega
              have h4d : decide (0 < l4) = true := decide_eq_true h4
              obtain ⟨xg, hxg⟩ : ∃ x, idxE (fIdx (m.g.map (·.s)) s) = x := ⟨_, rfl⟩
              rw [hxg] at HFG
              clear hxg
              have HV := Lib.hid (show ((ms.take (k + 1)).any fun m => stF m s || stG m s) = true from by rw [HTK.out, HVF0.out, h4d]; rfl)
              have e0 := fun (p : Past wr) => (HC0.out p.W (bthen HBI.out p.h)).1
              have e1 := fun (p : Past wr) => (HC0.out p.W (bthen HBI.out p.h)).2.1
              have e2 := fun (p : Past wr) => (HC0.out p.W (bthen HBI.out p.h)).2.2
              have HPF := Lib.hid (fun (p : Past wr) => HFF.out p.W (bthen HBI.out p.h))
              go_upto_region 12 with fail
              refine wp_region_past (by kernel_rfl) (by kernel_rfl) ?_
              repeat (go_big_quiet_step (first | (go_at_call 29; refine past_of (HPF.out _))))
              refine wpQuiet_nil ?_
              rintro W9 ⟨⟨X9, hb9⟩, e9⟩
              dsimp only at e9
              subst e9
              have HB9 := Lib.hid (bthen HBI.out hb9)
              clear e0 e1 e2 hb9 HPF
              have e0 := fun (p : Past W9) => (HC0.out p.W (bthen HB9.out p.h)).1
              have e1 := fun (p : Past W9) => (HC0.out p.W (bthen HB9.out p.h)).2.1
              have e2 := fun (p : Past W9) => (HC0.out p.W (bthen HB9.out p.h)).2.2
              have HPG := Lib.hid (fun (p : Past W9) => HFG.out p.W (bthen HB9.out p.h))
              go_upto_region 13 with fail
              refine wp_region_past (by kernel_rfl) (by kernel_rfl) ?_
              repeat (go_big_quiet_step (first | (go_at_call 30; refine past_of (HPG.out _))))
              refine wpQuiet_nil ?_
              rintro W10 ⟨⟨X10, hb10⟩, e10⟩
              dsimp only at e10
              subst e10
              have HBW := Lib.hid (bthen HB9.out hb10)
              clear e0 e1 e2 hb10 HPG
              obtain ⟨z0, z1, z2⟩ := HC0.out W10 HBW.out
              obtain ⟨y1, y2⟩ := HXF.out W10 HBW.out
              go_wp2_with fail
              go_roundw
              case rel => exact ⟨k + 1, HLK.out, by go_num, by rw [HV.out], HBW.out⟩
              case measure => have := HLK.out; simp [intOf]; omega
          · have h5 : (bf == 2) = false := by simpa using e5
            have HVF := Lib.hid (show stF m s = false by rw [HVF0.out, h5]; rfl)
            cases hgi : fIdx (m.g.map (·.s)) s with
            | none =>
              rw [hgi] at HFG
              have HVG := Lib.hid (show stG m s = false by unfold stG; rw [hgi])
              simp only [idxE] at HFG
              clear hgi
              have HV := Lib.hid (show ((ms.take (k + 1)).any fun m => stF m s || stG m s) = false from by rw [HTK.out, HVF.out, HVG.out]; rfl)
              have e0 := fun (p : Past wr) => (HC0.out p.W (bthen HBI.out p.h)).1
              have e1 := fun (p : Past wr) => (HC0.out p.W (bthen HBI.out p.h)).2.1
              have e2 := fun (p : Past wr) => (HC0.out p.W (bthen HBI.out p.h)).2.2
              have HPF := Lib.hid (fun (p : Past wr) => HFF.out p.W (bthen HBI.out p.h))
              go_upto_region 12 with fail
              refine wp_region_past (by kernel_rfl) (by kernel_rfl) ?_
              repeat (go_big_quiet_step (first | (go_at_call 29; refine past_of (HPF.out _))))
              refine wpQuiet_nil ?_
              rintro W9 ⟨⟨X9, hb9⟩, e9⟩
              dsimp only at e9
              subst e9
              have HB9 := Lib.hid (bthen HBI.out hb9)
              clear e0 e1 e2 hb9 HPF
              have e0 := fun (p : Past W9) => (HC0.out p.W (bthen HB9.out p.h)).1
              have e1 := fun (p : Past W9) => (HC0.out p.W (bthen HB9.out p.h)).2.1
              have e2 := fun (p : Past W9) => (HC0.out p.W (bthen HB9.out p.h)).2.2
              have HPG := Lib.hid (fun (p : Past W9) => HFG.out p.W (bthen HB9.out p.h))
              go_upto_region 13 with fail
              refine wp_region_past (by kernel_rfl) (by kernel_rfl) ?_
              repeat (go_big_quiet_step (first | (go_at_call 30; refine past_of (HPG.out _))))
              refine wpQuiet_nil ?_
              rintro W10 ⟨⟨X10, hb10⟩, e10⟩
              dsimp only at e10
              subst e10
              have HBW := Lib.hid (bthen HB9.out hb10)
              clear e0 e1 e2 hb10 HPG
              obtain ⟨z0, z1, z2⟩ := HC0.out W10 HBW.out
              obtain ⟨y1, y2⟩ := HXF.out W10 HBW.out
              go_wp2_with fail
              go_roundw
              case rel => exact ⟨k + 1, HLK.out, by go_num, by rw [HV.out], HBW.out⟩
              case measure => have := HLK.out; simp [intOf]; omega
            | some jg =>
              obtain ⟨hjg, -⟩ := fIdx_get hgi
              have hjg2 : jg < m.g.length := by simpa using hjg
              have HVG0 := Lib.hid (show stG m s = (m.g[jg].b == 2 && m.g[jg].h) by unfold stG; rw [hgi]; simp only [List.getElem?_eq_getElem hjg2])
              rw [hgi] at HFG
              simp only [idxE] at HFG
              obtain ⟨b6, off6, hA6, hbl6, -, y6, y7, -⟩ := RowOf.at_ HGG.out hjg2
              subst hA6
              obtain ⟨bg, hbg⟩ : ∃ b, m.g[jg].b = b := ⟨_, rfl⟩
              obtain ⟨hg, hhg⟩ : ∃ b, m.g[jg].h = b := ⟨_, rfl⟩
              rw [hbg] at y6 HVG0
              rw [hhg] at y7 HVG0
              have HXG := Lib.hid (fun (U : World) (hU : Below w2.heap.size w2 U) => (show U.cell? ⟨b6, off6 + jg * 4 + 1, none⟩ = some (.int .i64 bg) ∧ U.cell? ⟨b6, off6 + jg * 4 + 2, none⟩ = some (.bool hg) from ⟨(cellNext hbl6 hU _).trans y6, (cellNext hbl6 hU _).trans y7⟩))
              have jg0 : (0 : Int) ≤ (jg : Int) := Int.natCast_nonneg _
              have jg1 : (jg : Int) < (ng : Int) := by have := HNG.out; omega
              have jg2 : decide (0 ≤ (jg : Int)) = true := by simp
              clear hgi hjg hjg2 hbg hhg y6 y7 hbl6
              by_cases e6 : bg = 2
              · subst e6
                cases hg with
                | true =>
                  have HV := Lib.hid (show ((ms.take (k + 1)).any fun m => stF m s || stG m s) = true from by rw [HTK.out, HVF.out, HVG0.out]; rfl)
                  have e0 := fun (p : Past wr) => (HC0.out p.W (bthen HBI.out p.h)).1
                  have e1 := fun (p : Past wr) => (HC0.out p.W (bthen HBI.out p.h)).2.1
                  have e2 := fun (p : Past wr) => (HC0.out p.W (bthen HBI.out p.h)).2.2
                  have HPF := Lib.hid (fun (p : Past wr) => HFF.out p.W (bthen HBI.out p.h))
                  go_upto_region 12 with fail
                  refine wp_region_past (by kernel_rfl) (by kernel_rfl) ?_
                  repeat (go_big_quiet_step (first | (go_at_call 29; refine past_of (HPF.out _))))
                  refine wpQuiet_nil ?_
                  rintro W9 ⟨⟨X9, hb9⟩, e9⟩
                  dsimp only at e9
                  subst e9
                  have HB9 := Lib.hid (bthen HBI.out hb9)
                  clear e0 e1 e2 hb9 HPF
                  have e0 := fun (p : Past W9) => (HC0.out p.W (bthen HB9.out p.h)).1
                  have e1 := fun (p : Past W9) => (HC0.out p.W (bthen HB9.out p.h)).2.1
                  have e2 := fun (p : Past W9) => (HC0.out p.W (bthen HB9.out p.h)).2.2
                  have HPG := Lib.hid (fun (p : Past W9) => HFG.out p.W (bthen HB9.out p.h))
                  go_upto_region 13 with fail
                  refine wp_region_past (by kernel_rfl) (by kernel_rfl) ?_
                  repeat (go_big_quiet_step (first | (go_at_call 30; refine past_of (HPG.out _))))
                  refine wpQuiet_nil ?_
                  rintro W10 ⟨⟨X10, hb10⟩, e10⟩
                  dsimp only at e10
                  subst e10
                  have HBW := Lib.hid (bthen HB9.out hb10)
                  clear e0 e1 e2 hb10 HPG
                  obtain ⟨z0, z1, z2⟩ := HC0.out W10 HBW.out
                  obtain ⟨y1, y2⟩ := HXF.out W10 HBW.out
                  obtain ⟨x1, x2⟩ := HXG.out W10 HBW.out
                  go_wp2_with fail
                  go_roundw
                  case rel => exact ⟨k + 1, HLK.out, by go_num, by rw [HV.out], HBW.out⟩
                  case measure => have := HLK.out; simp [intOf]; omega
                | false =>
                  have HV := Lib.hid (show ((ms.take (k + 1)).any fun m => stF m s || stG m s) = false from by rw [HTK.out, HVF.out, HVG0.out]; rfl)
                  have e0 := fun (p : Past wr) => (HC0.out p.W (bthen HBI.out p.h)).1
                  have e1 := fun (p : Past wr) => (HC0.out p.W (bthen HBI.out p.h)).2.1
                  have e2 := fun (p : Past wr) => (HC0.out p.W (bthen HBI.out p.h)).2.2
                  have HPF := Lib.hid (fun (p : Past wr) => HFF.out p.W (bthen HBI.out p.h))
                  go_upto_region 12 with fail
                  refine wp_region_past (by kernel_rfl) (by kernel_rfl) ?_
                  repeat (go_big_quiet_step (first | (go_at_call 29; refine past_of (HPF.out _))))
                  refine wpQuiet_nil ?_
                  rintro W9 ⟨⟨X9, hb9⟩, e9⟩
                  dsimp only at e9
                  subst e9
                  have HB9 := Lib.hid (bthen HBI.out hb9)
                  clear e0 e1 e2 hb9 HPF
                  have e0 := fun (p : Past W9) => (HC0.out p.W (bthen HB9.out p.h)).1
                  have e1 := fun (p : Past W9) => (HC0.out p.W (bthen HB9.out p.h)).2.1
                  have e2 := fun (p : Past W9) => (HC0.out p.W (bthen HB9.out p.h)).2.2
                  have HPG := Lib.hid (fun (p : Past W9) => HFG.out p.W (bthen HB9.out p.h))
                  go_upto_region 13 with fail
                  refine wp_region_past (by kernel_rfl) (by kernel_rfl) ?_
                  repeat (go_big_quiet_step (first | (go_at_call 30; refine past_of (HPG.out _))))
                  refine wpQuiet_nil ?_
                  rintro W10 ⟨⟨X10, hb10⟩, e10⟩
                  dsimp only at e10
                  subst e10
                  have HBW := Lib.hid (bthen HB9.out hb10)
                  clear e0 e1 e2 hb10 HPG
                  obtain ⟨z0, z1, z2⟩ := HC0.out W10 HBW.out
                  obtain ⟨y1, y2⟩ := HXF.out W10 HBW.out
                  obtain ⟨x1, x2⟩ := HXG.out W10 HBW.out
                  go_wp2_with fail
                  go_roundw
                  case rel => exact ⟨k + 1, HLK.out, by go_num, by rw [HV.out], HBW.out⟩
                  case measure => have := HLK.out; simp [intOf]; omega
              · have h6 : (bg == 2) = false := by simpa using e6
                have HV := Lib.hid (show ((ms.take (k + 1)).any fun m => stF m s || stG m s) = false from by rw [HTK.out, HVF.out, HVG0.out, h6]; rfl)
                have e0 := fun (p : Past wr) => (HC0.out p.W (bthen HBI.out p.h)).1
                have e1 := fun (p : Past wr) => (HC0.out p.W (bthen HBI.out p.h)).2.1
                have e2 := fun (p : Past wr) => (HC0.out p.W (bthen HBI.out p.h)).2.2
                have HPF := Lib.hid (fun (p : Past wr) => HFF.out p.W (bthen HBI.out p.h))
                go_upto_region 12 with fail
                refine wp_region_past (by kernel_rfl) (by kernel_rfl) ?_
                repeat (go_big_quiet_step (first | (go_at_call 29; refine past_of (HPF.out _))))
                refine wpQuiet_nil ?_
                rintro W9 ⟨⟨X9, hb9⟩, e9⟩
                dsimp only at e9
                subst e9
                have HB9 := Lib.hid (bthen HBI.out hb9)
                clear e0 e1 e2 hb9 HPF
                have e0 := fun (p : Past W9) => (HC0.out p.W (bthen HB9.out p.h)).1
                have e1 := fun (p : Past W9) => (HC0.out p.W (bthen HB9.out p.h)).2.1
                have e2 := fun (p : Past W9) => (HC0.out p.W (bthen HB9.out p.h)).2.2
                have HPG := Lib.hid (fun (p : Past W9) => HFG.out p.W (bthen HB9.out p.h))
                go_upto_region 13 with fail
                refine wp_region_past (by kernel_rfl) (by kernel_rfl) ?_
                repeat (go_big_quiet_step (first | (go_at_call 30; refine past_of (HPG.out _))))
                refine wpQuiet_nil ?_
                rintro W10 ⟨⟨X10, hb10⟩, e10⟩
                dsimp only at e10
                subst e10
                have HBW := Lib.hid (bthen HB9.out hb10)
                clear e0 e1 e2 hb10 HPG
                obtain ⟨z0, z1, z2⟩ := HC0.out W10 HBW.out
                obtain ⟨y1, y2⟩ := HXF.out W10 HBW.out
                obtain ⟨x1, x2⟩ := HXG.out W10 HBW.out
                go_wp2_with fail
                go_roundw
                case rel => exact ⟨k + 1, HLK.out, by go_num, by rw [HV.out], HBW.out⟩
                case measure => have := HLK.out; simp [intOf]; omega
end Go.Proofs.Ytniolkjeblocaaa
