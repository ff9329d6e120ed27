/- Package pick: modules are taken till none is wanted. Package pick: Take, of any files. Package pick: the document's example at the head of its statements. Package pick: the document's example holds. -/
import Derived.Test.YtcfniagmnkngfaaRC
import Derived.Deep.LoopGhost
import Derived.WalkMore
namespace Go.Proofs.Ytcfniagmnkngfaa
open Go.RowKit

/-- the length of the row behind a pointer -/
def rowLen (B : Nat) (W : World) : Nat := match W.cell? ⟨B, 2, none⟩ with | some (.slice _ n _) => n | _ => 0
theorem PkAt.parts {w0 : World} {fv : Value} {l : List Fl} {B mb : Nat} {s : Tk} {k : Nat} {W : World} (h : PkAt w0 fv l B mb s k W) :
    ∃ A c D, W.heap[B]? = some (.cells #[fv, .map (some mb), .slice A s.r.length c] 108 (0, 0)) ∧ Mods W (.slice A s.r.length c) s.r ∧ W.ownsMap Try.prog 158 unitElem mb k D ∧ HasAll l D s.t ∧ Below w0.heap.size w0 W ∧ rowLen B W = s.r.length := by
  obtain ⟨v, D, h1, h2, h3, h4, h5, -⟩ := h
  have hm := h2.mods
  obtain ⟨ys, ho, -⟩ := h2
  obtain ⟨A, c, rfl⟩ := ownsRow_slice ho
  refine ⟨A, c, D, h1, hm, h3, h4, h5, ?_⟩
  unfold rowLen
  rw [Lib.cell_of_heap h1 2]
  rfl
theorem ownsRow_cap {W : World} {base : Nat} {T : TypeId} {sz n : Nat} {A : Option Addr} {c : Nat} {ys : List Value} (h : W.ownsRow base T sz (.slice A n c) n ys) : n ≤ c := by
  rcases h.2 with ⟨-, rfl⟩ | ⟨g, cap, cur, e, -, -, h1, -⟩
  · exact Nat.zero_le _
  · have := (Value.slice.inj e).2.2
    omega
theorem PkAt.cap {w0 : World} {fv : Value} {l : List Fl} {B mb : Nat} {s : Tk} {k : Nat} {W : World} (h : PkAt w0 fv l B mb s k W) {A : Option Addr} {c : Nat} (hB : W.heap[B]? = some (.cells #[fv, .map (some mb), .slice A s.r.length c] 108 (0, 0))) : s.r.length ≤ c := by
  obtain ⟨v, D, h1, ⟨ys, ho, -⟩, -⟩ := h
  rw [h1] at hB
  have e : v = .slice A s.r.length c := by simpa using hB
  subst e
  exact ownsRow_cap ho
/-- no module ahead of a number may be taken -/
def NoneTo (l : List Fl) (s : Tk) (q : Nat) : Prop := ∀ k (hk : k < (flat l).length), k < q → s.t k = true ∨ openB s.r (flat l)[k].2 = false
theorem any_congr_on {α : Type} {p q : α → Bool} : ∀ {l : List α}, (∀ x ∈ l, p x = q x) → l.any p = l.any q
  | [], _ => rfl
  | x :: l, h => by rw [List.any_cons, List.any_cons, h x (by simp), any_congr_on (fun y hy => h y (by simp [hy]))]
theorem open_of_set {D : DataW Unit} {r : List Md} {m : Md} (h : HasW D (fun s => wantB r s && !defB r s)) (hok : MdOk m) : ((selM defP m).any fun s => Maps.has D (slit s)) = openB r m := by
  unfold openB
  refine any_congr_on (fun s hs => ?_)
  rw [h s (selM_size hok s hs)]
  exact Bool.and_comm _ _
theorem none_of_empty {D : DataW Unit} {r : List Md} {m : Md} (h : HasW D (fun s => wantB r s && !defB r s)) (hok : MdOk m) (hD : Maps.IsMap D) (h0 : Maps.size D = 0) : openB r m = false := by
  rw [← open_of_set h hok]
  obtain ⟨es, rfl⟩ := hD
  rw [Maps.size_eq] at h0
  have : es = [] := List.length_eq_zero_iff.1 h0
  subst this
  rw [List.any_eq_false]
  intro s _
  simp [Maps.has_eq]
theorem steps_ok {l : List Fl} {s : Tk} (g : Good l) (h : Steps (flat l) (begT (flat l)) s) : (∀ m ∈ s.r, MdOk m ∧ MdSm m) ∧ s.r.length ≤ 16 := by
  refine ⟨fun m hm => ?_, ?_⟩
  · obtain ⟨x, hx, rfl⟩ := steps_from h m hm
    obtain ⟨ms, hms, hx⟩ := List.mem_flatten.1 hx
    obtain ⟨f, hf, rfl⟩ := List.mem_map.1 hms
    obtain ⟨m, hm2, rfl⟩ := List.mem_map.1 hx
    exact ⟨(g.ok f hf).2 m hm2, check_small (g.right f hf m hm2)⟩
  · have := steps_left h
    have h2 := g.m16
    rw [flat_length] at this
    omega
/-- what search comes to -/
def Found (w0 : World) (fv : Value) (l : List Fl) (B mb : Nat) (w' : World) : Prop := ∃ s k, Steps (flat l) (begT (flat l)) s ∧ AllDone (flat l) s ∧ PkAt w0 fv l B mb s k w'
set_option maxRecDepth 100000 in
set_option maxHeartbeats 8000000 in
theorem search_any (w0 w : World) (l : List Fl) (A : Option Addr) (n c B mb k0 : Nat) (hn : l.length = n) (g : Good l) (hF : Files w0 (.slice A n c) l) (hk0 : k0 ≤ 8) (hP : PkAt w0 (.slice A n c) l B mb (begT (flat l)) k0 w) :
    Calls Try.prog 59 #[.pointer (some ⟨B, 0, none⟩)] w fun e w' => (∃ v, e = .returned v) ∧ Found w0 (.slice A n c) l B mb w' := by
  have HN := Lib.hid (show l.length ≤ n ∧ n ≤ l.length by omega)
  have HNQ := Lib.hid hn
  have HG := Lib.hid g
  have HF := Lib.hid hF
  have HP0 := Lib.hid hP
  have HK0 := Lib.hid hk0
  have n1 : (n : Int) ≤ 8 := by have := g.n8; omega
  have HW := Lib.hid (fun (s : Tk) (k : Nat) (U : World) (hs : Steps (flat l) (begT (flat l)) s) (hp : PkAt w0 (.slice A n c) l B mb s k U) => (show Calls Try.prog 95 #[.pointer (some ⟨B, 0, none⟩)] U (Wanted s.r U) from by
    obtain ⟨A1, c1, D, h1, h2, -⟩ := hp.parts
    obtain ⟨o1, o2⟩ := steps_ok g hs
    exact wanted_any s.r B mb _ A1 _ c1 U rfl (by omega) o1 h2 h1))
  clear hn g hF hP hk0
  go_enter Try.func59, Try.ntmps59
  go_wp2_with fail
  go_step3
  go_wp2_with fail
  go_step3
  go_wp2_with fail
  refine (HW.out _ _ _ .refl HP0.out).mono ?_
  rintro r w1 ⟨b0, D0, rfl, -, hs0, hw0, hb0⟩
  have HIN := Lib.hid (show ∃ (s : Tk) (k b : Nat) (D : DataW Unit), leftN (flat l) (begT (flat l)) = leftN (flat l) s ∧ Value.map (some b0) = .map (some b) ∧ Steps (flat l) (begT (flat l)) s ∧ k ≤ 8 + s.r.length ∧ PkAt w0 (.slice A n c) l B mb s k w1 ∧ SetAt w1 b D ∧ HasW D (fun x => wantB s.r x && !defB s.r x) from
    ⟨_, k0, b0, D0, rfl, rfl, .refl, by have := HK0.out; omega, HP0.out.next hb0, hs0, hw0⟩)
  clear hs0 hw0 hb0 HP0 HK0
  go_wp2_with fail
  go_loopg [2] (leftN (flat l) (begT (flat l))) (fun gq mv wr => ∃ (s : Tk) (k b : Nat) (D : DataW Unit), gq = leftN (flat l) s ∧ mv = .map (some b) ∧ Steps (flat l) (begT (flat l)) s ∧ k ≤ 8 + s.r.length ∧ PkAt w0 (.slice A n c) l B mb s k wr ∧ SetAt wr b D ∧ HasW D (fun x => wantB s.r x && !defB s.r x))
  case atStart => exact HIN.out
  case round =>
    obtain ⟨s, k, b, D, hgq, rfl, hst, hk, hp, hsd, hw⟩ := hrel
    have HGQ := Lib.hid hgq
    have HST := Lib.hid hst
    have HK := Lib.hid hk
    have HP := Lib.hid hp
    have HSD := Lib.hid hsd
    have HWW := Lib.hid hw
    have HOK := Lib.hid (steps_ok HG.out hst)
    obtain ⟨cnt, hown⟩ := hsd
    have HISM := Lib.hid (show Maps.IsMap D from hown.isMap)
    obtain ⟨Z, hZ⟩ : ∃ z, Maps.size D = z := ⟨_, rfl⟩
    have hlen : (Builtin.len_ #[152] 3 #[.map (some b)]).run Try.prog wr = .ok (.int .i64 Z) wr := by
      rw [← hZ]
      exact hown.len Try.underlying152 _
    have HZZ := Lib.hid hZ
    clear hZ hown hst hk hp hw HIN hgq
    by_cases hz : Z = 0
    · subst hz
      have HFI := Lib.hid (show Found w0 (.slice A n c) l B mb wr from ⟨s, k, HST.out, fun q hq => .inr (by
        obtain ⟨i, kk, hi, hkk, rfl⟩ := off_of hq
        rw [flat_get hi hkk]
        exact none_of_empty HWW.out ((HG.out.ok _ (List.getElem_mem hi)).2 _ (List.getElem_mem hkk)) HISM.out HZZ.out), HP.out⟩)
      go_wp2_with fail
      rw [Exit.noGoto_normal]
      refine bodyPost_end (results_none Try.results59 _ _ _) rfl ⟨⟨_, rfl⟩, HFI.out⟩
    · have hd0 : decide ((0 : Int) < (Z : Int)) = true := by simp; omega
      have hd0' : decide (0 < Z) = true := by simp; omega
      obtain ⟨A1, c1, D1, h1, -, -, -, h5, hrl⟩ := HP.out.parts
      have c0 : wr.cell? ⟨B, 0, none⟩ = some (.slice A n c) := Lib.cell_of_heap h1 0
      have HRL := Lib.hid hrl
      clear h1 h5 hrl
      go_wp2_with fail
      clear c0 hlen hd0 hd0' hz
      have HB0 := Lib.hid (Below.refl wr.heap.size wr)
      obtain ⟨W1, hW1⟩ : ∃ W1, wr = W1 := ⟨_, rfl⟩
      rw [hW1] at HP HSD HRL HB0
      rw [hW1]
      clear hW1
      go_loopg [22] n (fun gf iv wi => ∃ i : Nat, i + gf = n ∧ iv = .int .i64 i ∧ NoneTo l s (offL l i) ∧ Below W1.heap.size W1 wi)
      case atStart => exact ⟨0, by omega, rfl, fun q _ h => absurd h (by simp [offL, sumM]), HB0.out⟩
      case round =>
        obtain ⟨i, hgf, rfl, hnt, hb⟩ := hrel
        have HGF := Lib.hid hgf
        have HNT := Lib.hid hnt
        have HB := Lib.hid hb
        have hw0 : Below w0.heap.size w0 W1 := by obtain ⟨v, D, -, -, -, -, h5, -⟩ := HP.out; exact h5
        have HW0 := Lib.hid (bthen hw0 hb)
        clear hgf hnt hb hw0
        by_cases hlt : i < n
        · have hm : i < l.length := by have := HN.out; omega
          obtain ⟨bf, off, hA, hbl, e0⟩ := RowOf.at_ HF.out hm
          subst hA
          obtain ⟨g0, A3, z3, g1, -⟩ := FlIn.next _ _ _ _ _ hbl HW0.out e0
          obtain ⟨-, A4, z4, e1, hmods⟩ := e0
          have e34 : A4 = A3 ∧ z4 = z3 := by
            have h1 := (cellNext hbl HW0.out _).trans e1
            rw [g1] at h1
            have h2 := Value.slice.inj (Option.some.inj h1)
            exact ⟨h2.1.symm, h2.2.2.symm⟩
          obtain ⟨rfl, rfl⟩ := e34
          have HM := Lib.hid hmods
          have HMI := Lib.hid (show i < l.length ∧ i < l.length from ⟨hm, hm⟩)
          obtain ⟨x0, h0⟩ : ∃ z, l[i].a = z := ⟨_, rfl⟩
          obtain ⟨nm, h1⟩ : ∃ z, l[i].m.length = z := ⟨_, rfl⟩
          rw [h0] at g0
          rw [h1] at g1
          have HNM := Lib.hid (show (l[i]'(HMI.out.1)).m.length = nm from h1)
          have h16 := HG.out.len _ (List.getElem_mem hm)
          have m16 : (nm : Int) ≤ 16 := by omega
          have hk0 : (0 : Int) ≤ (i : Int) := Int.natCast_nonneg _
          have hk1 : (i : Int) < (n : Int) := by omega
          have HLT := Lib.hid hlt
          have HBX := Lib.hid (HB.out.trans ((balloc (Below.refl _ wr) (.cells #[.bool x0, .slice A4 nm z4] 55)).mono HB.out.size))
          clear h0 h1 hlt hbl e1 hmods h16
          go_wp2_with fail
          clear g0 g1
          go_loopg [30] nm (fun gm jv wi => ∃ kk : Nat, kk + gm = nm ∧ jv = .int .i64 kk ∧ NoneTo l s (offL l i + kk) ∧ Below W1.heap.size W1 wi)
          case atStart => exact ⟨0, by omega, rfl, by rw [Nat.add_zero]; exact HNT.out, HBX.out⟩
          case round =>
            obtain ⟨kk, hgm, rfl, hnt, hb⟩ := hrel
            have HGM := Lib.hid hgm
            have HNT2 := Lib.hid hnt
            have HB2 := Lib.hid hb
            have hw0 : Below w0.heap.size w0 W1 := by obtain ⟨v, D, -, -, -, -, h5, -⟩ := HP.out; exact h5
            have HW2 := Lib.hid (bthen hw0 hb)
            clear hgm hnt hb hw0 HBX
            by_cases hlk : kk < nm
            · have hkk : kk < (l[i]'(HMI.out.1)).m.length := by have := HNM.out; omega
              have hm := HMI.out.1
              obtain ⟨b2, of2, hA2, hbl2, F, cf, G, cg, q0, q1, hmd⟩ := RowOf.at_ (HM.out.next HW2.out) (show kk < l[i].m.length from hkk)
              have hA2' : A4 = some ⟨b2, of2, none⟩ := hA2
              subst hA2'
              have HMD := Lib.hid (hmd.next (W' := wr) (Below.refl _ _))
              have HJ := Lib.hid (show offL l i + kk < (flat l).length from off_lt hm hkk)
              have HFJ := Lib.hid (flat_get hm hkk)
              have hokm := (HG.out.ok _ (List.getElem_mem hm)).2 _ (List.getElem_mem hkk)
              have hsm := check_small (HG.out.right _ (List.getElem_mem hm) _ (List.getElem_mem hkk))
              obtain ⟨nf, hnf⟩ : ∃ q, l[i].m[kk].f.length = q := ⟨_, rfl⟩
              obtain ⟨ng, hng⟩ : ∃ q, l[i].m[kk].g.length = q := ⟨_, rfl⟩
              have HDO := Lib.hid (fun (U : World) (hU : Below wr.heap.size wr U) => (show Calls Try.prog 96 #[.agg #[.slice F nf cf, .slice G ng cg], .map (some b)] U fun e w' => e = .returned (.bool (openB s.r l[i].m[kk])) ∧ Below U.heap.size U w' from by
                rw [← open_of_set HWW.out hokm]
                have hmd2 := hmd.next hU
                rw [hnf, hng] at hmd2
                exact definesOne_any l[i].m[kk] F G nf cf ng cg b D U hokm hsm hnf hng hmd2 (HSD.out.next (bthen HB2.out hU))))
              have HTK := Lib.hid (fun (U : World) (hU : Below W1.heap.size W1 U) => (show Calls Try.prog 94 #[.pointer (some ⟨B, 0, none⟩), .agg #[.int .i64 i, .int .i64 kk]] U fun e w' => (∃ v, e = .returned v) ∧ PkAt w0 (.slice (some ⟨bf, off, none⟩) n c) l B mb ⟨fun q => q == offL l i + kk || s.t q, s.r ++ [l[i].m[kk]]⟩ (k + 1) w' from
                take_any w0 U l (some ⟨bf, off, none⟩) n c B mb s k i kk (by have := HK.out; have := HOK.out.2; omega) HNQ.out (by omega) (fun f hf => by have := HG.out.len f hf; omega) HF.out hm hkk hsm (by have := HOK.out.2; omega) (HP.out.next hU)))
              rw [hnf] at q0
              rw [hng] at q1
              have k2 : (0 : Int) ≤ (kk : Int) := Int.natCast_nonneg _
              have k3 : (kk : Int) < (nm : Int) := by omega
              have HLK := Lib.hid hlk
              obtain ⟨Q, hQ⟩ : ∃ Q, s.t (offL l i + kk) = Q := ⟨_, rfl⟩
              have HQ := Lib.hid hQ
              have HKY := Lib.hid (plit_key (i := i) (k := kk) (by omega) (by omega))
              obtain ⟨V, hV⟩ : ∃ V, openB s.r l[i].m[kk] = V := ⟨_, rfl⟩
              have HV := Lib.hid hV
              rw [hV] at HDO
              obtain ⟨m, hmm⟩ : ∃ m, l[i].m[kk] = m := ⟨_, rfl⟩
              rw [hmm] at HTK HV HFJ
              have HLU := Lib.hid (fun (U : World) (hU : Below W1.heap.size W1 U) => (show U.cell? ⟨B, 1, none⟩ = some (.map (some mb)) ∧ (Instr.lookup 106 (.map (some mb)) (.agg #[.int .i64 i, .int .i64 kk]) true).run Try.prog U = .ok (.tuple #[.agg #[], .bool Q]) U from by
                obtain ⟨A1, c1, D1, h1, -, h3, h4, -⟩ := (HP.out.next hU).parts
                refine ⟨Lib.cell_of_heap h1 1, ?_⟩
                obtain ⟨v, ps, hrun, hv⟩ := h3.look_ok place_keyed Try.underlying106 (unit_zero U) unitElem_mk HKY.out
                obtain ⟨rfl, -⟩ := unitElem_inv hv
                rw [h4 i kk hm hkk, HQ.out] at hrun
                exact hrun))
              have HX6 := Lib.hid (((balloc (Below.refl _ _) (.cells #[.int .i64 i, .int .i64 kk] 158)).block wr.heap.size (by simp)).trans (heap_alloc_new wr (.cells #[.slice F nf cf, .slice G ng cg] 25)))
              have HX7 := Lib.hid (show ((wr.alloc (.cells #[.slice F nf cf, .slice G ng cg] 25)).alloc (.cells #[.int .i64 i, .int .i64 kk] 158)).heap[wr.heap.size + 1]? = some (.cells #[.int .i64 i, .int .i64 kk] 158 (0, 0)) from by
                have e := heap_alloc_new (wr.alloc (.cells #[.slice F nf cf, .slice G ng cg] 25)) (.cells #[.int .i64 i, .int .i64 kk] 158)
                rwa [World.size_alloc] at e)
              have HB4 := Lib.hid (balloc (balloc (Below.refl _ wr) (.cells #[.slice F nf cf, .slice G ng cg] 25)) (.cells #[.int .i64 i, .int .i64 kk] 158))
              clear hQ hV hnf hng hmm hokm hsm hmd hA2 hbl2 hlk HKY HMD
              go_upto_region 10 with fail
              clear q0 q1
              generalize (wr.alloc (.cells #[.slice F nf cf, .slice G ng cg] 25)).alloc (.cells #[.int .i64 i, .int .i64 kk] 158) = W4 at *
              have HSA := Lib.hid (fun (U : World) (hU : Below W4.heap.size W4 U) => (show U.cell? ⟨B, 1, none⟩ = some (.map (some mb)) ∧ U.cell? ⟨wr.heap.size + 1, 0, none⟩ = some (.int .i64 i) ∧ U.cell? ⟨wr.heap.size + 1, 1, none⟩ = some (.int .i64 kk) ∧ (Instr.lookup 106 (.map (some mb)) (.agg #[.int .i64 i, .int .i64 kk]) true).run Try.prog U = .ok (.tuple #[.agg #[], .bool Q]) U from by
                obtain ⟨a1, a2⟩ := HLU.out U (bthen HB2.out (bthen HB4.out hU))
                have e := (hU.block _ (Array.getElem?_eq_some_iff.1 HX7.out).1).trans HX7.out
                exact ⟨a1, Lib.cell_of_heap e 0, Lib.cell_of_heap e 1, a2⟩))
              have HX6B := Lib.hid (fun (U : World) (hU : Below W4.heap.size W4 U) => (show U.cell? ⟨wr.heap.size, 0, none⟩ = some (.slice F nf cf) ∧ U.cell? ⟨wr.heap.size, 1, none⟩ = some (.slice G ng cg) ∧ U.cell? ⟨wr.heap.size + 1, 0, none⟩ = some (.int .i64 i) ∧ U.cell? ⟨wr.heap.size + 1, 1, none⟩ = some (.int .i64 kk) from by
                have e6 := (hU.block _ (Array.getElem?_eq_some_iff.1 HX6.out).1).trans HX6.out
                have e7 := (hU.block _ (Array.getElem?_eq_some_iff.1 HX7.out).1).trans HX7.out
                exact ⟨Lib.cell_of_heap e6 0, Lib.cell_of_heap e6 1, Lib.cell_of_heap e7 0, Lib.cell_of_heap e7 1⟩))
              refine wp_region_held_drew (S := (fun U => U.cell? ⟨B, 1, none⟩ = some (.map (some mb)) ∧ U.cell? ⟨wr.heap.size + 1, 0, none⟩ = some (.int .i64 i) ∧ U.cell? ⟨wr.heap.size + 1, 1, none⟩ = some (.int .i64 kk) ∧ (Instr.lookup 106 (.map (some mb)) (.agg #[.int .i64 i, .int .i64 kk]) true).run Try.prog U = .ok (.tuple #[.agg #[], .bool Q]) U)) (by kernel_rfl) (HSA.out _ (Below.refl _ _).drew) (fun hHeld => ?_)
              refine wpAnyH_take (i := 0) (v := ?_) rfl (by kernel_rfl) (by kernel_rfl) (by kernel_rfl) (fun _ _ _ h => h) (Or.inl ⟨by rfl, ?_⟩) hHeld ?_
              rotate_left
              · intro W' hSw; (try dsimp only at hSw); go_simp; try (with_reducible rfl)
              (try simp only [Act.put, List.getElem_toArray, List.getElem_cons_zero, List.setIfInBounds_toArray, List.set_cons_zero, List.set_cons_succ])
              refine wpAnyH_take (i := 1) (v := ?_) rfl (by kernel_rfl) (by kernel_rfl) (by kernel_rfl) (fun _ _ _ h => h) (Or.inl ⟨by rfl, ?_⟩) hHeld ?_
              rotate_left
              · intro W' hSw; (try dsimp only at hSw); go_simp; try (with_reducible rfl)
              (try simp only [Act.put, List.getElem_toArray, List.getElem_cons_zero, List.getElem_cons_succ, List.setIfInBounds_toArray, List.set_cons_zero, List.set_cons_succ])
              refine wpAnyH_take (i := 2) (v := ?_) rfl (by kernel_rfl) (by kernel_rfl) (by kernel_rfl) (fun _ _ _ h => h) (Or.inl ⟨by rfl, ?_⟩) hHeld ?_
              rotate_left
              · intro W' hSw; (try dsimp only at hSw); go_simp; try (with_reducible rfl)
              (try simp only [Act.put, List.getElem_toArray, List.getElem_cons_zero, List.getElem_cons_succ, List.setIfInBounds_toArray, List.set_cons_zero, List.set_cons_succ])
              refine wpAnyH_take (i := 3) (v := ?_) rfl (by kernel_rfl) (by kernel_rfl) (by kernel_rfl) (fun _ _ _ h => h) (Or.inl ⟨by rfl, ?_⟩) hHeld ?_
              rotate_left
              · intro W' hSw; (try dsimp only at hSw); go_simp; try (with_reducible rfl)
              (try simp only [Act.put, List.getElem_toArray, List.getElem_cons_zero, List.getElem_cons_succ, List.setIfInBounds_toArray, List.set_cons_zero, List.set_cons_succ])
              refine wpAnyH_take (i := 4) (v := ?_) rfl (by kernel_rfl) (by kernel_rfl) (by kernel_rfl) (fun _ _ _ h => h) (Or.inl ⟨by rfl, ?_⟩) hHeld ?_
              rotate_left
              · intro W' hSw; (try dsimp only at hSw); go_simp; try (with_reducible rfl)
              (try simp only [Act.put, List.getElem_toArray, List.getElem_cons_zero, List.getElem_cons_succ, List.setIfInBounds_toArray, List.set_cons_zero, List.set_cons_succ])
              refine wpAnyH_take (i := 5) (v := ?_) rfl (by kernel_rfl) (by kernel_rfl) (by kernel_rfl) (fun _ _ _ h => h) (Or.inl ⟨by rfl, ?_⟩) hHeld ?_
              rotate_left
              · intro W' hSw; (try dsimp only at hSw); go_simp; try (with_reducible rfl)
              (try simp only [Act.put, List.getElem_toArray, List.getElem_cons_zero, List.getElem_cons_succ, List.setIfInBounds_toArray, List.set_cons_zero, List.set_cons_succ])
              refine wpAnyH_take (i := 6) (v := ?_) rfl (by kernel_rfl) (by kernel_rfl) (by kernel_rfl) (fun _ _ _ h => h) (Or.inl ⟨by rfl, ?_⟩) hHeld ?_
              rotate_left
              · intro W' hSw; (try dsimp only at hSw); go_simp; try (with_reducible rfl)
              (try simp only [Act.put, List.getElem_toArray, List.getElem_cons_zero, List.getElem_cons_succ, List.setIfInBounds_toArray, List.set_cons_zero, List.set_cons_succ])
              refine wpAnyH_take (i := 7) (v := ?_) rfl (by kernel_rfl) (by kernel_rfl) (by kernel_rfl) (fun _ _ _ h => h) (Or.inl ⟨by rfl, ?_⟩) hHeld ?_
              rotate_left
              · intro W' hSw; (try dsimp only at hSw); go_simp; try (with_reducible rfl)
              (try simp only [Act.put, List.getElem_toArray, List.getElem_cons_zero, List.getElem_cons_succ, List.setIfInBounds_toArray, List.set_cons_zero, List.set_cons_succ])
              refine wpAnyH_take (i := 8) (v := ?_) rfl (by kernel_rfl) (by kernel_rfl) (by kernel_rfl) (fun _ _ _ h => h) (Or.inl ⟨by rfl, ?_⟩) hHeld ?_
              rotate_left
              · intro W' hSw; (try dsimp only at hSw); go_simp; try (with_reducible rfl)
              (try simp only [Act.put, List.getElem_toArray, List.getElem_cons_zero, List.getElem_cons_succ, List.setIfInBounds_toArray, List.set_cons_zero, List.set_cons_succ])
              refine wpAnyH_ready (rs := [9]) (by kernel_rfl) (by simp) ?_
              refine AllReadyH.cons rfl (fun K hK => ?_) AllReadyH.nil
              go_simp
              have hd1 := HSA.out _ ((Below.refl _ _).drew.trans ((balloc (Below.refl _ W4.drew) (.cells #[] 153)).mono (Nat.le_refl _)))
              refine hK.out _ _ hd1 (fun hHeld => ?_)
              clear hK
              (try simp only [Act.put, List.getElem_toArray, List.getElem_cons_zero, List.getElem_cons_succ, List.setIfInBounds_toArray, List.set_cons_zero, List.set_cons_succ])
              refine wpAnyH_ready (rs := [10]) (by kernel_rfl) (by simp) ?_
              refine AllReadyH.cons rfl (fun K hK => ?_) AllReadyH.nil
              go_simp
              refine hK.out _ _ hd1 (fun hHeld => ?_)
              clear hK
              (try simp only [Act.put, List.getElem_toArray, List.getElem_cons_zero, List.getElem_cons_succ, List.setIfInBounds_toArray, List.set_cons_zero, List.set_cons_succ])
              refine wpAnyH_take (i := 11) (v := ?_) rfl (by kernel_rfl) (by kernel_rfl) (by kernel_rfl) (fun _ _ _ h => h) (Or.inl ⟨by rfl, ?_⟩) hHeld ?_
              rotate_left
              · intro W' hSw; (try dsimp only at hSw); go_simp; try (with_reducible rfl)
              (try simp only [Act.put, List.getElem_toArray, List.getElem_cons_zero, List.getElem_cons_succ, List.setIfInBounds_toArray, List.set_cons_zero, List.set_cons_succ])
              refine wpAnyH_done (by kernel_rfl) ?_ _
              have HB5 := Lib.hid ((balloc (Below.refl W4.heap.size W4) (.cells #[] 153)).drew)
              clear hd1
              generalize (W4.alloc (.cells #[] 153)).drew = W5 at *
              obtain ⟨a6, a6b, a7, a7b⟩ := HX6B.out W5 HB5.out
              clear HSA HLU
              have HB6 := Lib.hid (bthen HB4.out HB5.out)
              have HNX := Lib.hid (fun (h : Q = true ∨ V = false) => (show NoneTo l s (offL l i + (kk + 1)) from fun q hq hlq => by
                by_cases e : q = offL l i + kk
                · subst e
                  rcases h with h | h
                  · exact .inl (HQ.out.trans h)
                  · right
                    rw [HFJ.out]
                    exact HV.out.trans h
                · exact HNT2.out q hq (by omega)))
              cases Q with
              | true =>
                have HN2 := Lib.hid (HNX.out (.inl rfl))
                have HB7 := Lib.hid (bthen HB2.out HB6.out)
                clear HTK HDO
                go_wp2_with fail
                go_roundg (nm - (kk + 1))
                case measure => have := HGM.out; have := HLK.out; omega
                case rel => exact ⟨kk + 1, by have := HLK.out; omega, by go_num, HN2.out, HB7.out⟩
              | false =>
                have HDO5 := Lib.hid (HDO.out W5 HB6.out)
                clear HDO
                go_wp2_with fail
                refine HDO5.out.mono ?_
                rintro r w6 ⟨rfl, hb6⟩
                have HB7 := Lib.hid (bthen HB2.out (bthen HB6.out hb6))
                have e7 := (World.cell?_of_block (hb6.block _ (World.block_lt_of_cell? W5 _ a7))).trans a7
                have e7b := (World.cell?_of_block (hb6.block _ (World.block_lt_of_cell? W5 _ a7b))).trans a7b
                clear hb6 a6 a6b a7 a7b HDO5
                cases V with
                | false =>
                  have HN2 := Lib.hid (HNX.out (.inr rfl))
                  clear HTK HNX
                  go_wp2_with fail
                  go_roundg (nm - (kk + 1))
                  case measure => have := HGM.out; have := HLK.out; omega
                  case rel => exact ⟨kk + 1, by have := HLK.out; omega, by go_num, HN2.out, HB7.out⟩
                | true =>
                  have HT6 := Lib.hid (HTK.out w6 HB7.out)
                  have HONE := Lib.hid (show OneStep (flat l) s ⟨fun q => q == offL l i + kk || s.t q, s.r ++ [m]⟩ from
                    ⟨offL l i + kk, HJ.out, HQ.out, by rw [HFJ.out]; exact HV.out, fun q hq hlq => HNT2.out q hq hlq, by rw [HFJ.out]⟩)
                  clear HTK HNX
                  go_wp2_with fail
                  refine HT6.out.mono ?_
                  rintro r w7 ⟨⟨v7, rfl⟩, hp7⟩
                  have HP7 := Lib.hid hp7
                  have HS7 := Lib.hid (HST.out.step HONE.out)
                  have HL7 := Lib.hid (step_left HONE.out)
                  have HW7 := Lib.hid (HW.out _ _ w7 HS7.out hp7)
                  clear hp7 e7 e7b HT6
                  go_wp2_with fail
                  refine HW7.out.mono ?_
                  rintro r w8 ⟨b8, D8, rfl, -, hs8, hw8, hb8⟩
                  have HP8 := Lib.hid (HP7.out.next hb8)
                  have HS8 := Lib.hid hs8
                  have HW8 := Lib.hid hw8
                  clear hs8 hw8 hb8 HW7
                  go_wp2_with fail
                  go_roundg (leftN (flat l) ⟨fun q => q == offL l i + kk || s.t q, s.r ++ [m]⟩)
                  case measure => have h1 := HL7.out.1; have h2 := HGQ.out; omega
                  case rel => exact ⟨⟨fun q => q == offL l i + kk || s.t q, s.r ++ [m]⟩, k + 1, b8, D8, rfl, rfl, HS7.out, by have h1 := HL7.out.2; have h2 := HK.out; simp only at h1 ⊢; omega, HP8.out, HS8.out, HW8.out⟩
            · have hd : decide ((kk : Int) < (nm : Int)) = false := by simp; omega
              have HN2 := Lib.hid (show NoneTo l s (offL l (i + 1)) from by
                rw [offL_succ HMI.out.1, HNM.out]
                have := HNT2.out
                rwa [show kk = nm by have := HGM.out; omega] at this)
              go_wp2_with fail
              go_roundg (n - (i + 1))
              case measure => have := HGF.out; have := HLT.out; omega
              case rel => exact ⟨i + 1, by have := HLT.out; omega, by go_num, HN2.out, HB2.out⟩
        · have hd : decide ((i : Int) < (n : Int)) = false := by simp; omega
          have HFI := Lib.hid (show Found w0 (.slice A n c) l B mb wr from ⟨s, k, HST.out, fun q hq => HNT.out q hq (by
            rw [flat_length] at hq
            rw [offL_all (by have := HN.out; omega)]
            exact hq), HP.out.next HB.out⟩)
          go_wp2_with fail
          try rw [Exit.noGoto_ret]
          refine bodyPost_ret (results_none Try.results59 _ _ _) rfl ⟨⟨_, rfl⟩, HFI.out⟩
end Go.Proofs.Ytcfniagmnkngfaa

namespace Go.Proofs.Ytcfniagmnkngfaa
open Go.RowKit

/-- what Take answers -/
def TakePost (l : List Fl) (w : World) (e : Ending) (w' : World) : Prop :=
  Below w.heap.size w w' ∧ ((pickE l ≠ 0 ∧ e = .returned (.tuple #[.slice none 0 0, .int .i64 (pickE l)])) ∨
    (Good l ∧ ∃ r A c, Taken (flat l) r ∧ e = .returned (.tuple #[.slice A r.length c, .int .i64 0]) ∧ Mods w' (.slice A r.length c) r ∧ r.length ≤ c))
set_option maxRecDepth 100000 in
set_option maxHeartbeats 8000000 in
theorem pickTake_any (l : List Fl) (A : Option Addr) (n c : Nat) (w : World) (hn : l.length = n) (h9 : n ≤ 9223372036854775807) (hok : ∀ f ∈ l, FlOk f) (hS : Files w (.slice A n c) l) :
    Calls Try.prog 24 #[.slice A n c] w (TakePost l w) := by
  have HC := Lib.hid (pickCheck_any l A n c w hn h9 hok hS)
  have HBG := Lib.hid (fun (g : Good l) (U : World) (hU : Below w.heap.size w U) => begun_any l A n c U hn g (hS.next hU))
  have HSE := Lib.hid (fun (g : Good l) (w0 U : World) (B mb k : Nat) (hw0 : Below w.heap.size w w0) (hk : k ≤ 8) (hp : PkAt w0 (.slice A n c) l B mb (begT (flat l)) k U) => search_any w0 U l A n c B mb k hn g (hS.next hw0) hk hp)
  have HGO := Lib.hid (fun h => good_of hok h)
  obtain ⟨V, hV⟩ : ∃ V, pickE l = V := ⟨_, rfl⟩
  have HV := Lib.hid hV
  rw [hV] at HC HGO
  clear hn h9 hok hS hV
  go_enter Try.func24, Try.ntmps24
  go_wp2_with fail
  refine HC.out.mono ?_
  rintro r w1 ⟨rfl, hb1⟩
  have HB1 := Lib.hid hb1
  clear hb1 HC
  by_cases hz : V = 0
  · subst hz
    have HG := Lib.hid (HGO.out rfl)
    have HB2 := Lib.hid (HBG.out HG.out w1 HB1.out)
    clear HGO HBG
    go_wp2_with fail
    refine HB2.out.mono ?_
    rintro r w2 ⟨mb, v, k, rfl, hk, hp, hb2⟩
    obtain ⟨A1, c1, D1, e1, -⟩ := hp.parts
    rw [heap_alloc_new] at e1
    have ev : v = .slice A1 (begT (flat l)).r.length c1 := by simpa using e1
    subst ev
    clear e1
    have HB3 := Lib.hid (bthen HB1.out hb2)
    have HP3 := Lib.hid hp
    have HK3 := Lib.hid hk
    have HS3 := Lib.hid (HSE.out HG.out w1 _ w2.heap.size mb k HB1.out hk hp)
    clear hp hb2 hk HB2 HSE
    go_wp2_with fail
    refine HS3.out.mono ?_
    rintro r w4 ⟨⟨v4, rfl⟩, s, k4, hst, hdn, hp4⟩
    obtain ⟨A4, c4, D4, h1, h2, -, -, h5, -⟩ := hp4.parts
    have c2 : w4.cell? ⟨w2.heap.size, 2, none⟩ = some (.slice A4 s.r.length c4) := Lib.cell_of_heap h1 2
    have HFI := Lib.hid (show TakePost l w (.returned (.tuple #[.slice A4 s.r.length c4, .int .i64 0])) w4 from ⟨bthen HB1.out h5, .inr ⟨HG.out, s.r, A4, c4, ⟨s, hst, hdn, rfl⟩, rfl, h2, hp4.cap h1⟩⟩)
    clear h1 h2 h5 hst hdn hp4 HS3
    go_wp2_with fail
    go_ret2
    exact HFI.out
  · have hz1 : (V != 0) = true := by simpa using hz
    have HZ := Lib.hid (show pickE l ≠ 0 by rw [HV.out]; exact hz)
    go_wp2_with fail
    go_ret2
    exact ⟨HB1.out, .inl ⟨HZ.out, by rw [HV.out]; rfl⟩⟩
end Go.Proofs.Ytcfniagmnkngfaa

namespace Go.Proofs.Ytcfniagmnkngfaa
open Go.RowKit

def gvIn : In := ⟨1, 0, 0, 0, ⟨#[]⟩, []⟩
def gvBk : Bk := ⟨0, [gvIn], ⟨3, 0, 0, [], 0, []⟩⟩
def gvMd (s : ByteArray) : Md := ⟨[⟨s, 2, 0, [gvBk]⟩], []⟩
def wtMd (s : ByteArray) : Md := ⟨[⟨s, 2, 0, []⟩], []⟩
def NewMd (m : Md) (w : World) (e : Ending) (w' : World) : Prop := ∃ F, e = .returned (.agg #[.slice F 1 1, .slice none 0 0]) ∧ MdAt w' (.slice F 1 1) (.slice none 0 0) m ∧ Below w.heap.size w w'
theorem below_setRowp {w X : World} {n B : Nat} {cells : Array Value} (h : Below n w X) (hB : n ≤ B) : Below n w (X.setRow B cells) :=
  h.trans ⟨rfl, rfl, rfl, by simp, fun k hk => setRow_other X _ k _ (by omega)⟩
theorem mdw_results (tmps : Array Value) (w : World) (B : Nat) (v vg : Value) (hB : w.heap[B]? = some (.cells #[v, vg] 25 (0, 0))) (h2 : tmps.getD 2 undef = .pointer (some ⟨B, 0, none⟩)) :
    (results Try.f56 tmps).run Try.prog w = .ok (.agg #[v, vg]) w := by
  have c0 : w.cell? ⟨B, 0, none⟩ = some v := Lib.cell_of_heap hB 0
  have c1 : w.cell? ⟨B, 1, none⟩ = some vg := Lib.cell_of_heap hB 1
  rw [Array.getD_eq_getD_getElem?] at h2
  simp [results, Try.results56, go_sem, h2, c0, c1]
theorem mdg_results (tmps : Array Value) (w : World) (B : Nat) (v vg : Value) (hB : w.heap[B]? = some (.cells #[v, vg] 25 (0, 0))) (h2 : tmps.getD 2 undef = .pointer (some ⟨B, 0, none⟩)) :
    (results Try.f57 tmps).run Try.prog w = .ok (.agg #[v, vg]) w := by
  have c0 : w.cell? ⟨B, 0, none⟩ = some v := Lib.cell_of_heap hB 0
  have c1 : w.cell? ⟨B, 1, none⟩ = some vg := Lib.cell_of_heap hB 1
  rw [Array.getD_eq_getD_getElem?] at h2
  simp [results, Try.results57, go_sem, h2, c0, c1]
set_option maxRecDepth 100000 in
set_option maxHeartbeats 4000000 in
theorem lwants_any (s : ByteArray) (w : World) : Calls Try.prog 56 #[.string s] w (NewMd (wtMd s) w) := by
  go_enter Try.func56, Try.ntmps56
  go_upto_region 1 with fail
  have HX := Lib.hid (heap_alloc_new w (.cells #[.slice none 0 0, .slice none 0 0] 25))
  have HB := Lib.hid (balloc (Below.refl _ w) (.cells #[.slice none 0 0, .slice none 0 0] 25))
  generalize w.alloc (.cells #[.slice none 0 0, .slice none 0 0] 25) = W0 at *
  have hFx := heap_alloc_new W0 (.cells #[.string s, .int .i64 2, .int .i64 0, .slice none 0 0] 78)
  have HX1 := Lib.hid (((balloc (Below.refl _ W0) (.cells #[.string s, .int .i64 2, .int .i64 0, .slice none 0 0] 78)).block _ (Array.getElem?_eq_some_iff.1 HX.out).1).trans HX.out)
  have HB1 := Lib.hid (bthen HB.out (balloc (Below.refl _ W0) (.cells #[.string s, .int .i64 2, .int .i64 0, .slice none 0 0] 78)))
  have HNE := Lib.hid (show W0.heap.size ≠ w.heap.size by have := (Array.getElem?_eq_some_iff.1 HX.out).1; omega)
  have HR := Lib.hid (setRow_heap (W0.alloc (.cells #[.string s, .int .i64 2, .int .i64 0, .slice none 0 0] 78)) w.heap.size _ #[.slice (some ⟨W0.heap.size, 0, none⟩) 1 1, .slice none 0 0] _ _ HX1.out)
  have hF2 := (setRow_other (W0.alloc (.cells #[.string s, .int .i64 2, .int .i64 0, .slice none 0 0] 78)) w.heap.size W0.heap.size #[.slice (some ⟨W0.heap.size, 0, none⟩) 1 1, .slice none 0 0] HNE.out).trans hFx
  have HFI := Lib.hid (show NewMd (wtMd s) w (.returned (.agg #[.slice (some ⟨W0.heap.size, 0, none⟩) 1 1, .slice none 0 0])) ((W0.alloc (.cells #[.string s, .int .i64 2, .int .i64 0, .slice none 0 0] 78)).setRow w.heap.size #[.slice (some ⟨W0.heap.size, 0, none⟩) 1 1, .slice none 0 0]) from
    ⟨_, rfl, ⟨.inr ⟨by simp [wtMd], W0.heap.size, 0, 1, rfl, (Array.getElem?_eq_some_iff.1 hF2).1, fun i hi => by
      obtain rfl : i = 0 := by simpa [wtMd] using hi
      exact ⟨Lib.cell_of_heap hF2 0, Lib.cell_of_heap hF2 1, Lib.cell_of_heap hF2 2, none, 0, Lib.cell_of_heap hF2 3, .inl ⟨rfl, .inl rfl⟩⟩⟩, .inl ⟨rfl, .inl rfl⟩⟩, below_setRowp HB1.out (Nat.le_refl _)⟩)
  clear hFx hF2
  go_wp2_with (refine wpList_store_row rfl _ _ _ rfl w.heap.size #[.slice (some ⟨W0.heap.size, 0, none⟩) 1 1, .slice none 0 0] rfl rfl _ _ HX1.out md_info rfl (by simp [Value.oneCell']) ?_)
  exact bodyPost_ret (mdw_results _ _ w.heap.size _ _ HR.out rfl) rfl HFI.out
theorem gv_blocks (w : World) (W : World) (hW : W = ((w.alloc (.cells #[.int .i64 1, .int .i64 0, .int .i64 0, .int .u64 0, .string ⟨#[]⟩, .slice none 0 0] 85)).alloc (.cells #[.int .i64 0, .slice (some ⟨w.heap.size, 0, none⟩) 1 1, .int .i64 3, .int .i64 0, .int .i64 0, .slice none 0 0, .int .i64 0, .slice none 0 0] 90))) :
    Blocks W (.slice (some ⟨w.heap.size + 1, 0, none⟩) 1 1) [gvBk] ∧ Below w.heap.size w W := by
  subst hW
  have i0 := heap_alloc_new w (.cells #[.int .i64 1, .int .i64 0, .int .i64 0, .int .u64 0, .string ⟨#[]⟩, .slice none 0 0] 85)
  have hb := balloc (Below.refl _ (w.alloc (.cells #[.int .i64 1, .int .i64 0, .int .i64 0, .int .u64 0, .string ⟨#[]⟩, .slice none 0 0] 85))) (.cells #[.int .i64 0, .slice (some ⟨w.heap.size, 0, none⟩) 1 1, .int .i64 3, .int .i64 0, .int .i64 0, .slice none 0 0, .int .i64 0, .slice none 0 0] 90)
  have i1 := (hb.block _ (Array.getElem?_eq_some_iff.1 i0).1).trans i0
  have b1 := heap_alloc_new (w.alloc (.cells #[.int .i64 1, .int .i64 0, .int .i64 0, .int .u64 0, .string ⟨#[]⟩, .slice none 0 0] 85)) (.cells #[.int .i64 0, .slice (some ⟨w.heap.size, 0, none⟩) 1 1, .int .i64 3, .int .i64 0, .int .i64 0, .slice none 0 0, .int .i64 0, .slice none 0 0] 90)
  rw [World.size_alloc] at b1
  refine ⟨.inr ⟨by simp, w.heap.size + 1, 0, 1, rfl, (Array.getElem?_eq_some_iff.1 b1).1, fun i hi => ?_⟩, bthen (balloc (Below.refl _ w) _) hb⟩
  obtain rfl : i = 0 := by simpa using hi
  refine ⟨Lib.cell_of_heap b1 0, ⟨some ⟨w.heap.size, 0, none⟩, 1, Lib.cell_of_heap b1 1, .inr ⟨by simp [gvBk], w.heap.size, 0, 1, rfl, (Array.getElem?_eq_some_iff.1 i1).1, fun j hj => ?_⟩⟩, Lib.cell_of_heap b1 2, Lib.cell_of_heap b1 3, Lib.cell_of_heap b1 4, ⟨none, 0, Lib.cell_of_heap b1 5, .inl ⟨rfl, .inl rfl⟩⟩, Lib.cell_of_heap b1 6, none, 0, Lib.cell_of_heap b1 7, .inl ⟨rfl, .inl rfl⟩⟩
  obtain rfl : j = 0 := by simpa [gvBk] using hj
  exact ⟨Lib.cell_of_heap i1 0, Lib.cell_of_heap i1 1, Lib.cell_of_heap i1 2, Lib.cell_of_heap i1 3, Lib.cell_of_heap i1 4, none, 0, Lib.cell_of_heap i1 5, .inl ⟨rfl, .inl rfl⟩⟩
set_option maxRecDepth 100000 in
set_option maxHeartbeats 4000000 in
theorem lgives_any (s : ByteArray) (w : World) : Calls Try.prog 57 #[.string s] w (NewMd (gvMd s) w) := by
  go_enter Try.func57, Try.ntmps57
  go_upto_region 1 with fail
  have HX := Lib.hid (heap_alloc_new w (.cells #[.slice none 0 0, .slice none 0 0] 25))
  have HB := Lib.hid (balloc (Below.refl _ w) (.cells #[.slice none 0 0, .slice none 0 0] 25))
  generalize w.alloc (.cells #[.slice none 0 0, .slice none 0 0] 25) = W0 at *
  obtain ⟨W1, hW1⟩ : ∃ W1, W1 = ((W0.alloc (.cells #[.int .i64 1, .int .i64 0, .int .i64 0, .int .u64 0, .string ⟨#[]⟩, .slice none 0 0] 85)).alloc (.cells #[.int .i64 0, .slice (some ⟨W0.heap.size, 0, none⟩) 1 1, .int .i64 3, .int .i64 0, .int .i64 0, .slice none 0 0, .int .i64 0, .slice none 0 0] 90)) := ⟨_, rfl⟩
  obtain ⟨hbk, hb1⟩ := gv_blocks W0 W1 hW1
  have hs1 : W1.heap.size = W0.heap.size + 1 + 1 := by rw [hW1]; simp
  obtain ⟨W2, hW2⟩ : ∃ W2, W2 = W1.alloc (.cells #[.string s, .int .i64 2, .int .i64 0, .slice (some ⟨W0.heap.size + 1, 0, none⟩) 1 1] 78) := ⟨_, rfl⟩
  have hFx : W2.heap[W0.heap.size + 1 + 1]? = some (.cells #[.string s, .int .i64 2, .int .i64 0, .slice (some ⟨W0.heap.size + 1, 0, none⟩) 1 1] 78 (0, 0)) := by rw [hW2, ← hs1]; exact heap_alloc_new W1 _
  have hb2 : Below W1.heap.size W1 W2 := by rw [hW2]; exact balloc (Below.refl _ W1) _
  have hb02 := bthen hb1 hb2
  have HX1 := Lib.hid ((hb02.block _ (Array.getElem?_eq_some_iff.1 HX.out).1).trans HX.out)
  have HB1 := Lib.hid (bthen HB.out hb02)
  have hlt : w.heap.size < W0.heap.size := (Array.getElem?_eq_some_iff.1 HX.out).1
  have HR := Lib.hid (setRow_heap W2 w.heap.size _ #[.slice (some ⟨W0.heap.size + 1 + 1, 0, none⟩) 1 1, .slice none 0 0] _ _ HX1.out)
  have hF2 := (setRow_other W2 w.heap.size (W0.heap.size + 1 + 1) #[.slice (some ⟨W0.heap.size + 1 + 1, 0, none⟩) 1 1, .slice none 0 0] (by omega)).trans hFx
  have hbk2 : Blocks (W2.setRow w.heap.size #[.slice (some ⟨W0.heap.size + 1 + 1, 0, none⟩) 1 1, .slice none 0 0]) (.slice (some ⟨W0.heap.size + 1, 0, none⟩) 1 1) [gvBk] := by
    -- the blocks lie above the result's box
    subst hW2
    subst hW1
    have i0 := heap_alloc_new W0 (.cells #[.int .i64 1, .int .i64 0, .int .i64 0, .int .u64 0, .string ⟨#[]⟩, .slice none 0 0] 85)
    have k1 := balloc (Below.refl _ (W0.alloc (.cells #[.int .i64 1, .int .i64 0, .int .i64 0, .int .u64 0, .string ⟨#[]⟩, .slice none 0 0] 85))) (.cells #[.int .i64 0, .slice (some ⟨W0.heap.size, 0, none⟩) 1 1, .int .i64 3, .int .i64 0, .int .i64 0, .slice none 0 0, .int .i64 0, .slice none 0 0] 90)
    have i1 := (k1.block _ (Array.getElem?_eq_some_iff.1 i0).1).trans i0
    have b1 := heap_alloc_new (W0.alloc (.cells #[.int .i64 1, .int .i64 0, .int .i64 0, .int .u64 0, .string ⟨#[]⟩, .slice none 0 0] 85)) (.cells #[.int .i64 0, .slice (some ⟨W0.heap.size, 0, none⟩) 1 1, .int .i64 3, .int .i64 0, .int .i64 0, .slice none 0 0, .int .i64 0, .slice none 0 0] 90)
    rw [World.size_alloc] at b1
    have i2 := (setRow_other _ w.heap.size W0.heap.size #[.slice (some ⟨W0.heap.size + 1 + 1, 0, none⟩) 1 1, .slice none 0 0] (by omega)).trans ((hb2.block _ (Array.getElem?_eq_some_iff.1 i1).1).trans i1)
    have b2 := (setRow_other _ w.heap.size (W0.heap.size + 1) #[.slice (some ⟨W0.heap.size + 1 + 1, 0, none⟩) 1 1, .slice none 0 0] (by omega)).trans ((hb2.block _ (Array.getElem?_eq_some_iff.1 b1).1).trans b1)
    refine .inr ⟨by simp, W0.heap.size + 1, 0, 1, rfl, (Array.getElem?_eq_some_iff.1 b2).1, fun i hi => ?_⟩
    obtain rfl : i = 0 := by simpa using hi
    refine ⟨Lib.cell_of_heap b2 0, ⟨some ⟨W0.heap.size, 0, none⟩, 1, Lib.cell_of_heap b2 1, .inr ⟨by simp [gvBk], W0.heap.size, 0, 1, rfl, (Array.getElem?_eq_some_iff.1 i2).1, fun j hj => ?_⟩⟩, Lib.cell_of_heap b2 2, Lib.cell_of_heap b2 3, Lib.cell_of_heap b2 4, ⟨none, 0, Lib.cell_of_heap b2 5, .inl ⟨rfl, .inl rfl⟩⟩, Lib.cell_of_heap b2 6, none, 0, Lib.cell_of_heap b2 7, .inl ⟨rfl, .inl rfl⟩⟩
    obtain rfl : j = 0 := by simpa [gvBk] using hj
    exact ⟨Lib.cell_of_heap i2 0, Lib.cell_of_heap i2 1, Lib.cell_of_heap i2 2, Lib.cell_of_heap i2 3, Lib.cell_of_heap i2 4, none, 0, Lib.cell_of_heap i2 5, .inl ⟨rfl, .inl rfl⟩⟩
  have HFI := Lib.hid (show NewMd (gvMd s) w (.returned (.agg #[.slice (some ⟨W0.heap.size + 1 + 1, 0, none⟩) 1 1, .slice none 0 0])) (W2.setRow w.heap.size #[.slice (some ⟨W0.heap.size + 1 + 1, 0, none⟩) 1 1, .slice none 0 0]) from
    ⟨_, rfl, ⟨.inr ⟨by simp [gvMd], W0.heap.size + 1 + 1, 0, 1, rfl, (Array.getElem?_eq_some_iff.1 hF2).1, fun i hi => by
      obtain rfl : i = 0 := by simpa [gvMd] using hi
      exact ⟨Lib.cell_of_heap hF2 0, Lib.cell_of_heap hF2 1, Lib.cell_of_heap hF2 2, some ⟨W0.heap.size + 1, 0, none⟩, 1, Lib.cell_of_heap hF2 3, hbk2⟩⟩, .inl ⟨rfl, .inl rfl⟩⟩, below_setRowp HB1.out (Nat.le_refl _)⟩)
  have HXE := Lib.hid (show W2 = (((W0.alloc (.cells #[.int .i64 1, .int .i64 0, .int .i64 0, .int .u64 0, .string ⟨#[]⟩, .slice none 0 0] 85)).alloc (.cells #[.int .i64 0, .slice (some ⟨W0.heap.size, 0, none⟩) 1 1, .int .i64 3, .int .i64 0, .int .i64 0, .slice none 0 0, .int .i64 0, .slice none 0 0] 90))).alloc (.cells #[.string s, .int .i64 2, .int .i64 0, .slice (some ⟨W0.heap.size + 1, 0, none⟩) 1 1] 78) by rw [hW2, hW1])
  clear hFx hF2 hbk hbk2 hb1 hb2 hb02 hs1 hlt hW1 hW2
  rw [HXE.out] at HX1 HR HFI
  clear HXE
  go_wp2_with (refine wpList_store_row rfl _ _ _ rfl w.heap.size #[.slice (some ⟨W0.heap.size + 1 + 1, 0, none⟩) 1 1, .slice none 0 0] rfl rfl _ _ HX1.out md_info rfl (by simp [Value.oneCell']) ?_)
  exact bodyPost_ret (mdg_results _ _ w.heap.size _ _ HR.out rfl) rfl HFI.out
end Go.Proofs.Ytcfniagmnkngfaa

namespace Go.Proofs.Ytcfniagmnkngfaa
open Go.RowKit

def nF : ByteArray := ⟨#[102]⟩
def nG : ByteArray := ⟨#[103]⟩
def nH : ByteArray := ⟨#[104]⟩
def exFl : List Fl := [⟨false, [wtMd nF]⟩, ⟨true, [gvMd nG, gvMd nF, gvMd nH]⟩]
def exFlat : List (Bool × Md) := [(false, wtMd nF), (true, gvMd nG), (true, gvMd nF), (true, gvMd nH)]
theorem exFlat_eq : flat exFl = exFlat := rfl
theorem exFl_right : pickE exFl = 0 := by decide +kernel
def exT : Tk := ⟨fun k => k == 2 || (begT exFlat).t k, [wtMd nF] ++ [gvMd nF]⟩
theorem ex_taken : Taken (flat exFl) [wtMd nF, gvMd nF] := by
  rw [exFlat_eq]
  refine ⟨exT, .step .refl ⟨2, by decide, rfl, by decide +kernel, fun k hk h2 => ?_, rfl⟩, fun k hk => ?_, rfl⟩
  · have : k = 0 ∨ k = 1 := by omega
    rcases this with rfl | rfl
    · exact .inl rfl
    · exact .inr (by show openB (begT exFlat).r (gvMd nG) = false; decide +kernel)
  · have hk4 : k < 4 := hk
    have : k = 0 ∨ k = 1 ∨ k = 2 ∨ k = 3 := by omega
    rcases this with rfl | rfl | rfl | rfl
    · exact .inl rfl
    · exact .inr (by show openB exT.r (gvMd nG) = false; decide +kernel)
    · exact .inl rfl
    · exact .inr (by show openB exT.r (gvMd nH) = false; decide +kernel)
theorem wtMd_ok (s : ByteArray) (h : s.size < 9223372036854775808) : MdOk (wtMd s) := ⟨fun f hf => by obtain rfl : f = ⟨s, 2, 0, []⟩ := (by simpa [wtMd] using hf); exact ⟨h, by simp, fun b hb => by simp at hb⟩, fun g hg => by simp [wtMd] at hg, by simp [wtMd], by simp [wtMd]⟩
theorem gvMd_ok (s : ByteArray) (h : s.size < 9223372036854775808) : MdOk (gvMd s) := ⟨fun f hf => by
  obtain rfl : f = ⟨s, 2, 0, [gvBk]⟩ := (by simpa [gvMd] using hf)
  exact ⟨h, by simp, fun b hb => by
    obtain rfl : b = gvBk := (by simpa using hb)
    exact ⟨by decide, by decide, by decide, fun i hi => by obtain rfl : i = gvIn := (by simpa [gvBk] using hi); exact ⟨by decide, by decide⟩⟩⟩, fun g hg => by simp [gvMd] at hg, by simp [gvMd], by simp [gvMd]⟩
theorem exFl_ok : ∀ f ∈ exFl, FlOk f := by
  intro f hf
  have : f = ⟨false, [wtMd nF]⟩ ∨ f = ⟨true, [gvMd nG, gvMd nF, gvMd nH]⟩ := by simpa [exFl] using hf
  rcases this with rfl | rfl
  · exact ⟨by simp, fun m hm => by obtain rfl : m = wtMd nF := (by simpa using hm); exact wtMd_ok _ (by decide)⟩
  · refine ⟨by simp, fun m hm => ?_⟩
    have : m = gvMd nG ∨ m = gvMd nF ∨ m = gvMd nH := by simpa using hm
    rcases this with rfl | rfl | rfl <;> exact gvMd_ok _ (by decide)
set_option maxRecDepth 100000 in
set_option maxHeartbeats 8000000 in
theorem pshown_any (w : World) : Calls Try.prog 23 #[] w fun e w' => e = .returned (.bool true) ∧ Below w.heap.size w w' := by
  have HT := Lib.hid (fun (U : World) (A : Option Addr) (c : Nat) (hS : Files U (.slice A 2 c) exFl) => pickTake_any exFl A 2 c U rfl (by decide) exFl_ok hS)
  go_enter Try.func23, Try.ntmps23
  go_wp2_with fail
  refine (lwants_any nF w).mono ?_
  rintro r w1 ⟨F1, rfl, m1, hb1⟩
  have HM1 := Lib.hid m1
  have HB1 := Lib.hid hb1
  clear m1 hb1
  go_wp2_with fail
  refine (lgives_any nG _).mono ?_
  rintro r w2 ⟨F2, rfl, m2, hb2⟩
  have HM2 := Lib.hid m2
  have HB2 := Lib.hid hb2
  clear m2 hb2
  go_wp2_with fail
  refine (lgives_any nF _).mono ?_
  rintro r w3 ⟨F3, rfl, m3, hb3⟩
  have HM3 := Lib.hid m3
  have HB3 := Lib.hid hb3
  clear m3 hb3
  go_wp2_with fail
  refine (lgives_any nH _).mono ?_
  rintro r w4 ⟨F4, rfl, m4, hb4⟩
  have HM4 := Lib.hid m4
  have HB4 := Lib.hid hb4
  clear m4 hb4
  go_wp2_with fail
  obtain ⟨o1, ho1⟩ : ∃ o, Obj.cells #[.slice F1 1 1, .slice none 0 0] 25 (0, 0) = o := ⟨_, rfl⟩
  obtain ⟨o3, ho3⟩ : ∃ o, Obj.cells #[.slice F2 1 1, .slice none 0 0, .slice F3 1 1, .slice none 0 0, .slice F4 1 1, .slice none 0 0] 25 (0, 0) = o := ⟨_, rfl⟩
  obtain ⟨o4, ho4⟩ : ∃ o, Obj.cells #[.bool false, .slice (some ⟨w1.heap.size, 0, none⟩) 1 1, .bool true, .slice (some ⟨w4.heap.size, 0, none⟩) 3 3] 55 (0, 0) = o := ⟨_, rfl⟩
  have k6 := balloc (Below.refl _ (w4.alloc o3)) o4
  have k5 := balloc (Below.refl _ w4) o3
  have h1 : ((w4.alloc o3).alloc o4).heap[w1.heap.size]? = some o1 := by
    have e1 := heap_alloc_new w1 o1
    have l1 := (Array.getElem?_eq_some_iff.1 e1).1
    rw [← ho1] at e1 l1
    have e2 := (HB2.out.block _ l1).trans e1
    have l2 := (Array.getElem?_eq_some_iff.1 e2).1
    have e3 := (HB3.out.block _ l2).trans e2
    have e4 := (HB4.out.block _ (Array.getElem?_eq_some_iff.1 e3).1).trans e3
    have e5 := (k5.block _ (Array.getElem?_eq_some_iff.1 e4).1).trans e4
    rw [← ho1]
    exact (k6.block _ (Array.getElem?_eq_some_iff.1 e5).1).trans e5
  have h3 : ((w4.alloc o3).alloc o4).heap[w4.heap.size]? = some o3 := (k6.block _ (by simp)).trans (heap_alloc_new w4 o3)
  have h4 : ((w4.alloc o3).alloc o4).heap[w4.heap.size + 1]? = some o4 := by
    have e := heap_alloc_new (w4.alloc o3) o4
    rwa [World.size_alloc] at e
  have HB6 := Lib.hid (show Below w.heap.size w ((w4.alloc o3).alloc o4) from bthen (bthen (bthen (bthen (bthen (bthen HB1.out (balloc (Below.refl _ w1) _)) HB2.out) HB3.out) HB4.out) k5) k6)
  have n1 : MdAt ((w4.alloc o3).alloc o4) (.slice F1 1 1) (.slice none 0 0) (wtMd nF) := (((((HM1.out.next (balloc (Below.refl _ w1) _)).next HB2.out).next HB3.out).next HB4.out).next k5).next k6
  have n2 : MdAt ((w4.alloc o3).alloc o4) (.slice F2 1 1) (.slice none 0 0) (gvMd nG) := (((HM2.out.next HB3.out).next HB4.out).next k5).next k6
  have n3 : MdAt ((w4.alloc o3).alloc o4) (.slice F3 1 1) (.slice none 0 0) (gvMd nF) := ((HM3.out.next HB4.out).next k5).next k6
  have n4 : MdAt ((w4.alloc o3).alloc o4) (.slice F4 1 1) (.slice none 0 0) (gvMd nH) := (HM4.out.next k5).next k6
  subst ho1 ho3 ho4
  have HF := Lib.hid (show Files ((w4.alloc (.cells #[.slice F2 1 1, .slice none 0 0, .slice F3 1 1, .slice none 0 0, .slice F4 1 1, .slice none 0 0] 25)).alloc (.cells #[.bool false, .slice (some ⟨w1.heap.size, 0, none⟩) 1 1, .bool true, .slice (some ⟨w4.heap.size, 0, none⟩) 3 3] 55)) (.slice (some ⟨w4.heap.size + 1, 0, none⟩) 2 2) exFl from by
    refine .inr ⟨by simp [exFl], w4.heap.size + 1, 0, 2, rfl, (Array.getElem?_eq_some_iff.1 h4).1, fun i hi => ?_⟩
    have hi2 : i < 2 := hi
    have : i = 0 ∨ i = 1 := by omega
    rcases this with rfl | rfl
    · refine ⟨Lib.cell_of_heap h4 0, some ⟨w1.heap.size, 0, none⟩, 1, Lib.cell_of_heap h4 1, .inr ⟨by simp [exFl], w1.heap.size, 0, 1, rfl, (Array.getElem?_eq_some_iff.1 h1).1, fun k hk => ?_⟩⟩
      have hk1 : k < 1 := hk
      obtain rfl : k = 0 := by omega
      exact ⟨F1, 1, none, 0, Lib.cell_of_heap h1 0, Lib.cell_of_heap h1 1, n1⟩
    · refine ⟨Lib.cell_of_heap h4 2, some ⟨w4.heap.size, 0, none⟩, 3, Lib.cell_of_heap h4 3, .inr ⟨by simp [exFl], w4.heap.size, 0, 3, rfl, (Array.getElem?_eq_some_iff.1 h3).1, fun k hk => ?_⟩⟩
      have hk1 : k < 3 := hk
      have : k = 0 ∨ k = 1 ∨ k = 2 := by omega
      rcases this with rfl | rfl | rfl
      · exact ⟨F2, 1, none, 0, Lib.cell_of_heap h3 0, Lib.cell_of_heap h3 1, n2⟩
      · exact ⟨F3, 1, none, 0, Lib.cell_of_heap h3 2, Lib.cell_of_heap h3 3, n3⟩
      · exact ⟨F4, 1, none, 0, Lib.cell_of_heap h3 4, Lib.cell_of_heap h3 5, n4⟩)
  clear h1 h3 h4 k5 k6 n1 n2 n3 n4
  refine (HT.out _ _ _ HF.out).mono ?_
  rintro r w7 ⟨hb7, ⟨hne, -⟩ | ⟨-, rr, A, c, htk, rfl, hmods, -⟩⟩
  · exact absurd exFl_right hne
  obtain rfl : rr = [wtMd nF, gvMd nF] := taken_fun htk ex_taken
  have HB7 := Lib.hid (bthen HB6.out hb7)
  obtain ⟨b, off, hA, hbl, F, cf, G, cg, p0, p1, hmd⟩ := RowOf.at_ hmods (i := 1) (by decide)
  subst hA
  obtain ⟨b2, off2, hA2, hbl2, q0, -⟩ := RowOf.at_ hmd.1 (i := 0) (by decide)
  subst hA2
  have p0' : w7.cell? ⟨b, off + 2, none⟩ = some (.slice (some ⟨b2, off2, none⟩) 1 cf) := p0
  have q0' : w7.cell? ⟨b2, off2, none⟩ = some (.string nF) := q0
  clear htk hb7 hmods p0 p1 q0 hmd hbl hbl2 HF HT
  have hl2 : ([wtMd nF, gvMd nF] : List Md).length = 2 := rfl
  rw [hl2]
  go_wp2_with fail
  go_ret
  exact ⟨by rw [show (nF.toList == [102]) = true by decide +kernel]; rfl, HB7.out⟩
end Go.Proofs.Ytcfniagmnkngfaa
