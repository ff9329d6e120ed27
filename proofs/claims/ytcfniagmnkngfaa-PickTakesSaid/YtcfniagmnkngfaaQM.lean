/- The reference of package pick: Take, of any files: the walk. -/
import Derived.Test.YtcfniagmnkngfaaRE
import Derived.Deep.LoopGhost
namespace Go.Proofs.Ytcfniagmnkngfaa
open Go.RowKit

set_option maxRecDepth 100000 in
theorem alloc_had {ops : Array Oper} {rest : List Oper} {o : Oper} {a : Act} {w : World} {Q : Exit → Act → World → Prop} (hgd : o.guard = none) (ho : o.op = .alloc 111)
    (h : ∀ hs : Array Value, hs.size = 128 → (∀ j, j < 128 → hs[j]? = some (.bool false)) → wpList Try.prog ops Q rest (a.put o.dst (.pointer (some ⟨w.heap.size, 0, none⟩))) (w.alloc (.cells hs 111))) : wpList Try.prog ops Q (o :: rest) a w := by
  refine wpList_plain hgd fun K hK => ?_
  have h2 := h (Array.replicate 128 (.bool false)) (by simp) (fun j hj => by rw [Array.getElem?_replicate, if_pos hj])
  unfold Oper.wp execOp
  simp only [ho]
  go_simp
  exact hK _ _ h2
/-- the state while modules of archives are looked through -/
structure RefAt (l : List Fl) (w : World) (Hb : Nat) (s : Tk) (v : Value) (W : World) : Prop where
  out : OutIn w v s.r W
  had : HadAt l Hb s.t W
  bel : Below w.heap.size w W
  hb : w.heap.size ≤ Hb
  ne : v.ownBlock ≠ some Hb
theorem RefAt.next {l : List Fl} {w : World} {Hb : Nat} {s : Tk} {v : Value} {W W' : World} (h : RefAt l w Hb s v W) (hb : Below W.heap.size W W') : RefAt l w Hb s v W' := by
  refine ⟨h.out.below hb, ?_, bthen h.bel hb, h.hb, h.ne⟩
  obtain ⟨hs, h1, -⟩ := id h.had
  exact h.had.next (hb.block _ (Array.getElem?_eq_some_iff.1 h1).1)
set_option maxRecDepth 100000 in
set_option maxHeartbeats 8000000 in
theorem refTake_any (l : List Fl) (A : Option Addr) (n c : Nat) (w : World) (hn : l.length = n) (h9 : n ≤ 9223372036854775807) (hok : ∀ f ∈ l, FlOk f) (hw : ∀ f ∈ l, ∀ m ∈ f.m, MdW m) (hS : Files w (.slice A n c) l) :
    Calls Try.prog 25 #[.slice A n c] w (TakePost l w) := by
  have HC := Lib.hid (refPickCheck_any l A n c w hn h9 hok hw hS)
  have HN := Lib.hid (show l.length ≤ n ∧ n ≤ l.length by omega)
  have HNQ := Lib.hid hn
  have HS := Lib.hid hS
  have HGO := Lib.hid (fun h => good_of hok h)
  obtain ⟨V, hV⟩ : ∃ V, pickE l = V := ⟨_, rfl⟩
  have HV := Lib.hid hV
  rw [hV] at HC HGO
  clear hn h9 hok hS hV hw
  go_enter Try.func25, Try.ntmps25
  go_wp2_with fail
  refine HC.out.mono ?_
  rintro r w1 ⟨rfl, hb1⟩
  have HB1 := Lib.hid hb1
  clear hb1 HC
  by_cases hz : V = 0
  case neg =>
    have hz1 : (V != 0) = true := by simpa using hz
    have HZ := Lib.hid (show pickE l ≠ 0 by rw [HV.out]; exact hz)
    go_wp2_with fail
    go_ret2
    exact ⟨HB1.out, .inl ⟨HZ.out, by rw [HV.out]; rfl⟩⟩
  subst hz
  have HG := Lib.hid (HGO.out rfl)
  have n1 : (n : Int) ≤ 8 := by have := HG.out.n8; have := HN.out; omega
  clear HGO
  go_wp2_with fail
  go_loopw [5, 6] (fun vv iv wr => ∃ i : Nat, i ≤ n ∧ iv = .int .i64 i ∧ OutIn w vv (objs (flat (l.take i))) wr ∧ Below w.heap.size w wr) (fun _ iv _ => n - (intOf iv).toNat)
  case atStart => exact ⟨0, Nat.zero_le _, rfl, ⟨[], ⟨rfl, .inl ⟨rfl, rfl⟩⟩, fun j hj => by simp [objs, flat] at hj⟩, HB1.out⟩
  case round =>
    obtain ⟨i, hi, rfl, ho, hb⟩ := hrel
    have HO := Lib.hid ho
    have HB := Lib.hid hb
    clear ho hb
    by_cases hlt : i < n
    · have hm : i < l.length := by have := HN.out; omega
      obtain ⟨b1, off, hA, hbl, e0⟩ := RowOf.at_ HS.out hm
      subst hA
      obtain ⟨g0, A3, z3, g1, hmods⟩ := FlIn.next _ _ _ _ _ hbl HB.out e0
      obtain ⟨-, A4, z4, e1, hmod0⟩ := e0
      have e34 : A4 = A3 ∧ z4 = z3 := by
        have h1 := (cellNext hbl HB.out _).trans e1
        rw [g1] at h1
        have h2 := Value.slice.inj (Option.some.inj h1)
        exact ⟨h2.1.symm, h2.2.2.symm⟩
      obtain ⟨rfl, rfl⟩ := e34
      have HOT := Lib.hid (objs_take hm)
      have HL1 := Lib.hid (fun h => HG.out.oneAt hm h)
      have HLN := Lib.hid (show (objs (flat (l.take i))).length ≤ 1000 by have := objs_len (l := l) i; have := HG.out.m16; omega)
      have HMI := Lib.hid (show i < l.length ∧ i < l.length from ⟨hm, hm⟩)
      have HMD := Lib.hid hmod0
      generalize objs (flat (l.take i)) = r at *
      obtain ⟨x0, h0⟩ : ∃ z, l[i].a = z := ⟨_, rfl⟩
      obtain ⟨nm, h1⟩ : ∃ z, l[i].m.length = z := ⟨_, rfl⟩
      rw [h0] at g0
      simp only [h0] at HOT HL1
      rw [h1] at g1 HL1
      have HNM := Lib.hid (show (l[i]'(HMI.out.1)).m.length = nm from h1)
      have hk0 : (0 : Int) ≤ (i : Int) := Int.natCast_nonneg _
      have hk1 : (i : Int) < (n : Int) := by omega
      have HLT := Lib.hid hlt
      clear h0 h1 hlt hbl hmods hmod0 e1
      cases x0 with
      | true =>
        have HOX := Lib.hid (show objs (flat (l.take (i + 1))) = r by rw [HOT.out]; simp)
        clear HMD HL1
        go_wp2_with fail
        go_roundw
        case rel => exact ⟨i + 1, HLT.out, by go_num, by rw [HOX.out]; exact HO.out, HB.out⟩
        case measure => have := HLT.out; simp [intOf]; omega
      | false =>
        have hnm : nm = 1 := HL1.out rfl
        subst hnm
        have hmz : 0 < l[i].m.length := by have := HNM.out; omega
        obtain ⟨b2, of2, hA2, hbl2, F, cf, G, cg, q0, q1, hmd⟩ := RowOf.at_ HMD.out hmz
        subst hA2
        have HOX := Lib.hid (show objs (flat (l.take (i + 1))) = r ++ [l[i].m[0]] from by
          rw [HOT.out]
          simp only [Bool.false_eq_true, if_false]
          congr 1
          exact List.ext_getElem (by simpa using HNM.out) (fun j j1 j2 => by
            have : j = 0 := by have := HNM.out; omega
            subst this
            rfl))
        have q0' := (cellNext hbl2 HB.out _).trans q0
        have q1' := (cellNext hbl2 HB.out _).trans q1
        simp only [Nat.zero_mul, Nat.add_zero] at q0' q1'
        have HMU := Lib.hid (fun (U : World) (hU : Below w.heap.size w U) => hmd.next hU)
        obtain ⟨m, hmm⟩ : ∃ m, l[i].m[0] = m := ⟨_, rfl⟩
        rw [hmm] at q0' q1' HMU HOX
        obtain ⟨nf, hnf⟩ : ∃ q, m.f.length = q := ⟨_, rfl⟩
        obtain ⟨ng, hng⟩ : ∃ q, m.g.length = q := ⟨_, rfl⟩
        rw [hnf] at q0' HMU
        rw [hng] at q1' HMU
        have HNN := Lib.hid (And.intro hnf hng)
        have hk3 : (0 : Int) < ((1 : Nat) : Int) := by decide
        clear q0 q1 hmd hmm hnf hng hmz hbl2 HMD
        go_wp2_with (at_builtin; refine wpList_append_mod (u := wr) rfl _ _ rfl w _ r m F G cf cg nf ng _ rfl rfl rfl rfl HNN.out.1 HNN.out.2 HO.out HMU.out HLN.out HB.out.size ?_; intro v' w2 ho2 hg2 hat2)
        have HO2 := Lib.hid ho2
        have HB2 := Lib.hid (show Below w.heap.size w w2 from (bthen HB.out (balloc (Below.refl _ wr) _)).grown hg2 (by have := HB.out.size; simp; omega) (fun q hq => by obtain ⟨ys, ho, -⟩ := HO.out; exact (ho.lt q hq).1))
        clear ho2 hg2 hat2 q0' q1' g0 g1
        go_wp2_with fail
        go_roundw
        case rel => exact ⟨i + 1, HLT.out, by go_num, by rw [HOX.out]; exact HO2.out, HB2.out⟩
        case measure => have := HLT.out; simp [intOf]; omega
    · have hd : decide ((i : Int) < (n : Int)) = false := by simp; omega
      have HO0 := Lib.hid (show OutIn w u5 (begT (flat l)).r wr by have h := HO.out; rwa [List.take_of_length_le (by have := HN.out; omega)] at h)
      go_wp2_with (refine alloc_had rfl rfl ?_; intro hs hsz hall)
      obtain ⟨A0, c0, hv0⟩ := HO0.out.slice
      subst hv0
      have HR0 := Lib.hid (show RefAt l w wr.heap.size (begT (flat l)) (.slice A0 (begT (flat l)).r.length c0) (wr.alloc (.cells hs 111)) from
        ⟨HO0.out.below (balloc (Below.refl _ _) _), ⟨hs, heap_alloc_new _ _, hsz, fun j hj => ⟨false, hall j hj⟩, fun i k hi hk ha => by
          rw [begT_at hi hk, ha]
          exact hall _ (by have := HG.out.len _ (List.getElem_mem hi); have := HG.out.n8; omega)⟩, bthen HB.out (balloc (Below.refl _ _) _), HB.out.size, fun e => by obtain ⟨ys, ho, -⟩ := HO0.out; have := (ho.lt _ e).2; omega⟩)
      generalize wr.alloc (.cells hs 111) = W2 at *
      generalize wr.heap.size = Hb at *
      clear hsz hall hd HO0
      go_loopg [5, 8] (2 * leftN (flat l) (begT (flat l)) + 1) (fun gq vv mv wx => ∃ (s : Tk) (b : Bool), mv = .bool b ∧ gq = 2 * leftN (flat l) s + (if b = true then 1 else 0) ∧ Steps (flat l) (begT (flat l)) s ∧ (b = false → AllDone (flat l) s) ∧ RefAt l w Hb s vv wx)
      case atStart => exact ⟨_, true, rfl, rfl, .refl, fun h => Bool.noConfusion h, HR0.out⟩
      case round =>
        obtain ⟨s, b, rfl, hgq, hst, hdone, hr⟩ := hrel
        have HGQ := Lib.hid hgq
        have HST := Lib.hid hst
        have HDN := Lib.hid hdone
        have HR := Lib.hid hr
        have HOK := Lib.hid (taken_mdS HG.out hst)
        obtain ⟨A1, c1, hv1⟩ := hr.out.slice
        subst hv1
        clear hgq hst hdone hr HR0
        cases b with
        | false =>
          have HFI := Lib.hid (show TakePost l w (.returned (.tuple #[.slice A1 s.r.length c1, .int .i64 0])) wr from ⟨HR.out.bel, .inr ⟨HG.out, s.r, A1, c1, ⟨s, HST.out, HDN.out rfl, rfl⟩, rfl, HR.out.out.mods HR.out.bel, by obtain ⟨ys, ho, -⟩ := HR.out.out; exact ownsRow_cap ho⟩⟩)
          go_wp2_with fail
          go_ret2
          exact HFI.out
        | true =>
          go_wp2_with fail
          go_loopw [5, 8, 9] (fun vv mv iv wx => ∃ (i : Nat) (b : Bool) (s' : Tk), iv = .int .i64 i ∧ i ≤ n ∧ mv = .bool b ∧ RefAt l w Hb s' vv wx ∧ (b = false → s' = s ∧ NoneTo l s (offL l i)) ∧ (b = true → OneStep (flat l) s s')) (fun _ _ iv _ => n - (intOf iv).toNat)
          case atStart => exact ⟨0, false, s, rfl, Nat.zero_le _, rfl, HR.out, fun _ => ⟨rfl, fun q _ h => absurd h (by simp [offL, sumM])⟩, fun h => Bool.noConfusion h⟩
          case round =>
            obtain ⟨i, b, s', rfl, hi, rfl, hr, hno, hyes⟩ := hrel
            have HR2 := Lib.hid hr
            have HNO := Lib.hid hno
            have HYES := Lib.hid hyes
            obtain ⟨A2, c2, hv2⟩ := hr.out.slice
            subst hv2
            clear hr hno hyes HR
            have hk0 : (0 : Int) ≤ (i : Int) := Int.natCast_nonneg _
            cases b with
            | true =>
              have HS1 := Lib.hid (HYES.out rfl)
              have HL1 := Lib.hid (step_left HS1.out)
              by_cases hlt : i < n
              · have hd : decide ((i : Int) < (n : Int)) = true := by simp; omega
                go_wp2_with fail
                go_roundg (2 * leftN (flat l) s' + 1)
                case measure => have h1 := HL1.out.1; have h2 := HGQ.out; simp only [if_true] at h2; omega
                case rel => exact ⟨s', true, rfl, rfl, HST.out.step HS1.out, fun h => Bool.noConfusion h, HR2.out⟩
              · have hd : decide ((i : Int) < (n : Int)) = false := by simp; omega
                go_wp2_with fail
                go_roundg (2 * leftN (flat l) s' + 1)
                case measure => have h1 := HL1.out.1; have h2 := HGQ.out; simp only [if_true] at h2; omega
                case rel => exact ⟨s', true, rfl, rfl, HST.out.step HS1.out, fun h => Bool.noConfusion h, HR2.out⟩
            | false =>
              obtain ⟨hs', hnt⟩ := HNO.out rfl
              subst hs'
              have HNT := Lib.hid hnt
              clear hnt HNO HYES
              by_cases hlt : i < n
              case neg =>
                have hd : decide ((i : Int) < (n : Int)) = false := by simp; omega
                go_wp2_with fail
                go_roundg (2 * leftN (flat l) s')
                case measure => have h2 := HGQ.out; simp only [if_true] at h2; omega
                case rel => exact ⟨s', false, rfl, rfl, HST.out, fun _ q hq => HNT.out q hq (by
                  rw [flat_length] at hq
                  rw [offL_all (by have := HN.out; omega)]
                  exact hq), HR2.out⟩
              have hm : i < l.length := by have := HN.out; omega
              obtain ⟨bf, off, hA, hbl, e0⟩ := RowOf.at_ HS.out hm
              subst hA
              obtain ⟨g0, A3, z3, g1, hmods⟩ := e0
              have HM := Lib.hid hmods
              have HMI := Lib.hid (show i < l.length ∧ i < l.length from ⟨hm, hm⟩)
              have HOU := Lib.hid (fun (ha : l[i].a = false) => flat_out HST.out hm ha HNT.out)
              have HSU := Lib.hid (offL_succ hm)
              obtain ⟨x0, h0⟩ : ∃ z, l[i].a = z := ⟨_, rfl⟩
              obtain ⟨nm, h1⟩ : ∃ z, l[i].m.length = z := ⟨_, rfl⟩
              have HXA := Lib.hid (show (l[i]'(HMI.out.1)).a = x0 from h0)
              have HNM := Lib.hid (show (l[i]'(HMI.out.1)).m.length = nm from h1)
              rw [h0] at g0
              simp only [h0] at HOU
              rw [h1] at g1 HSU
              have h16 := HG.out.len _ (List.getElem_mem hm)
              have m16 : (nm : Int) ≤ 16 := by omega
              have hk1 : (i : Int) < (n : Int) := by omega
              have hk8 : (i : Int) < 8 := by omega
              have HLT := Lib.hid hlt
              have HCW := Lib.hid (fun (U : World) (hU : Below w.heap.size w U) => (show U.cell? ⟨bf, off + i * 2, none⟩ = some (.bool x0) ∧ U.cell? ⟨bf, off + i * 2 + 1, none⟩ = some (.slice A3 nm z3) from ⟨(cellNext hbl hU _).trans g0, (cellNext hbl hU _).trans g1⟩))
              clear h0 h1 hlt hbl hmods h16 g0 g1
              go_wp2_with fail
              go_loopw [5, 8, 10] (fun vv mv kv wx => ∃ (k : Nat) (b : Bool) (s2 : Tk), kv = .int .i64 k ∧ k ≤ nm ∧ mv = .bool b ∧ RefAt l w Hb s2 vv wx ∧ (b = false → s2 = s' ∧ NoneTo l s' (offL l i + k)) ∧ (b = true → OneStep (flat l) s' s2)) (fun _ _ kv _ => nm - (intOf kv).toNat)
              case atStart => exact ⟨0, false, s', rfl, Nat.zero_le _, rfl, HR2.out, fun _ => ⟨rfl, HNT.out⟩, fun h => Bool.noConfusion h⟩
              case round =>
                obtain ⟨k, b, s2, rfl, hk, rfl, hr, hno, hyes⟩ := hrel
                have HR3 := Lib.hid hr
                have HNO := Lib.hid hno
                have HYES := Lib.hid hyes
                obtain ⟨A4, c4, hv4⟩ := hr.out.slice
                subst hv4
                obtain ⟨f0, f1⟩ := HCW.out wr hr.bel
                clear hr hno hyes HR2
                have kk0 : (0 : Int) ≤ (k : Int) := Int.natCast_nonneg _
                by_cases hlk : k < nm
                case neg =>
                  have hd : decide ((k : Int) < (nm : Int)) = false := by simp; omega
                  cases b with
                  | true =>
                    have HS1 := Lib.hid (HYES.out rfl)
                    go_wp2_with fail
                    go_roundw
                    case rel => exact ⟨i + 1, true, s2, by go_num, HLT.out, rfl, HR3.out, fun h => Bool.noConfusion h, fun _ => HS1.out⟩
                    case measure => have := HLT.out; simp [intOf]; omega
                  | false =>
                    obtain ⟨hs2, hnt⟩ := HNO.out rfl
                    subst hs2
                    have HN2 := Lib.hid (show NoneTo l s2 (offL l (i + 1)) from by rw [HSU.out]; rwa [show k = nm by omega] at hnt)
                    clear hnt
                    go_wp2_with fail
                    go_roundw
                    case rel => exact ⟨i + 1, false, s2, by go_num, HLT.out, rfl, HR3.out, fun _ => ⟨rfl, HN2.out⟩, fun h => Bool.noConfusion h⟩
                    case measure => have := HLT.out; simp [intOf]; omega
                have kk1 : (k : Int) < (nm : Int) := by omega
                have hd : decide ((k : Int) < (nm : Int)) = true := by simp; omega
                cases b with
                | true =>
                  have HS1 := Lib.hid (HYES.out rfl)
                  go_wp2_with fail
                  go_roundw
                  case rel => exact ⟨i + 1, true, s2, by go_num, HLT.out, rfl, HR3.out, fun h => Bool.noConfusion h, fun _ => HS1.out⟩
                  case measure => have := HLT.out; simp [intOf]; omega
                | false =>
                  obtain ⟨hs2, hnt⟩ := HNO.out rfl
                  subst hs2
                  cases x0 with
                  | false =>
                    have HN2 := Lib.hid (HOU.out rfl)
                    clear hnt
                    go_wp2_with fail
                    go_roundw
                    case rel => exact ⟨i + 1, false, s2, by go_num, HLT.out, rfl, HR3.out, fun _ => ⟨rfl, HN2.out⟩, fun h => Bool.noConfusion h⟩
                    case measure => have := HLT.out; simp [intOf]; omega
                  | true =>
                    have HNT2 := Lib.hid hnt
                    clear hnt HNO HYES HOU
                    have hkk : k < (l[i]'(HMI.out.1)).m.length := by have := HNM.out; omega
                    have hm := HMI.out.1
                    obtain ⟨b2, of2, hA2, hbl2, F, cf, G, cg, q0, q1, hmd⟩ := RowOf.at_ HM.out (show k < l[i].m.length from hkk)
                    have hA2' : A3 = some ⟨b2, of2, none⟩ := hA2
                    subst hA2'
                    have HJ := Lib.hid (show offL l i + k < (flat l).length from off_lt hm hkk)
                    have HFJ := Lib.hid (flat_get hm hkk)
                    have hsm := check_small (HG.out.right _ (List.getElem_mem hm) _ (List.getElem_mem hkk))
                    have HMU := Lib.hid (fun (U : World) (hU : Below w.heap.size w U) => hmd.next hU)
                    have HCP := Lib.hid (fun (U : World) (hU : Below w.heap.size w U) => (show U.cell? ⟨b2, of2 + k * 2, none⟩ = some (.slice F l[i].m[k].f.length cf) ∧ U.cell? ⟨b2, of2 + k * 2 + 1, none⟩ = some (.slice G l[i].m[k].g.length cg) from ⟨(cellNext hbl2 hU _).trans q0, (cellNext hbl2 hU _).trans q1⟩))
                    obtain ⟨hs, h1, h2, h3, h4⟩ := HR3.out.had
                    have h5 := h4 i k hm hkk HXA.out
                    have HHB := Lib.hid h1
                    have HHC := Lib.hid h5
                    have HSS := Lib.hid (fun (W : World) (h : HadAt l Hb s2.t W) => h.put HG.out hm hkk)
                    clear h1 h2 h3 h4 h5 q0 q1
                    obtain ⟨m, hmm⟩ : ∃ m, l[i].m[k] = m := ⟨_, rfl⟩
                    rw [hmm] at HFJ hsm HMU HCP hmd
                    obtain ⟨nf, hnf⟩ : ∃ q, m.f.length = q := ⟨_, rfl⟩
                    obtain ⟨ng, hng⟩ : ∃ q, m.g.length = q := ⟨_, rfl⟩
                    rw [hnf, hng] at HMU HCP hmd
                    have HNN := Lib.hid (And.intro hnf hng)
                    have HOP := Lib.hid (refOpen_any s2.r m A4 F G s2.r.length c4 nf cf ng cg wr rfl (by have := HOK.out.2; omega) HOK.out.1 (mdSm_names hsm) hnf hng (HR3.out.out.mods HR3.out.bel) (hmd.next HR3.out.bel))
                    obtain ⟨Q, hQ⟩ : ∃ Q, s2.t (offL l i + k) = Q := ⟨_, rfl⟩
                    have HQ := Lib.hid hQ
                    rw [hQ] at HHC
                    obtain ⟨V, hV⟩ : ∃ V, openB s2.r m = V := ⟨_, rfl⟩
                    have HV := Lib.hid hV
                    rw [hV] at HOP
                    obtain ⟨p0, p1⟩ := HCP.out wr HR3.out.bel
                    have kk8 : (k : Int) < 16 := by omega
                    have HLK := Lib.hid hlk
                    have HNX := Lib.hid (fun (h : Q = true ∨ V = false) => (show NoneTo l s2 (offL l i + (k + 1)) from fun q hq hlq => by
                      by_cases e : q = offL l i + k
                      · subst e
                        rcases h with h | h
                        · exact .inl (HQ.out.trans h)
                        · right
                          rw [HFJ.out]
                          exact HV.out.trans h
                      · exact HNT2.out q hq (by omega)))
                    clear hQ hV hnf hng hmm hsm hmd hA2 hbl2 hlk
                    go_wp2_with fail
                    refine HOP.out.mono ?_
                    rintro r w5 ⟨rfl, hb5⟩
                    have HR5 := Lib.hid (HR3.out.next hb5)
                    have hh5 := (hb5.block _ (Array.getElem?_eq_some_iff.1 HHB.out).1).trans HHB.out
                    have eh : w5.cell? ⟨Hb, i * 16 + k, none⟩ = some (.bool Q) := (Lib.cell_of_heap hh5 _).trans HHC.out
                    have fh : w5.frozen? ⟨Hb, i * 16 + k, none⟩ = false := Lib.frozen_of_heap hh5 _
                    have HH5 := Lib.hid hh5
                    clear hb5 hh5 HOP f0 f1 p0 p1
                    cases Q with
                    | true =>
                      have HN2 := Lib.hid (HNX.out (.inl rfl))
                      clear fh
                      go_wp2_with fail
                      go_roundw
                      case rel => exact ⟨k + 1, false, s2, by go_num, HLK.out, rfl, HR5.out, fun _ => ⟨rfl, HN2.out⟩, fun h => Bool.noConfusion h⟩
                      case measure => have := HLK.out; simp [intOf]; omega
                    | false =>
                      cases V with
                      | false =>
                        have HN2 := Lib.hid (HNX.out (.inr rfl))
                        clear fh
                        go_wp2_with fail
                        go_roundw
                        case rel => exact ⟨k + 1, false, s2, by go_num, HLK.out, rfl, HR5.out, fun _ => ⟨rfl, HN2.out⟩, fun h => Bool.noConfusion h⟩
                        case measure => have := HLK.out; simp [intOf]; omega
                      | true =>
                        have HONE := Lib.hid (show OneStep (flat l) s2 ⟨fun q => q == offL l i + k || s2.t q, s2.r ++ [m]⟩ from
                          ⟨offL l i + k, HJ.out, HQ.out, by rw [HFJ.out]; exact HV.out, fun q hq hlq => HNT2.out q hq hlq, by rw [HFJ.out]⟩)
                        have HD6 := Lib.hid (HSS.out w5 HR5.out.had)
                        have HNE := Lib.hid HR5.out.ne
                        have HO6 := Lib.hid (HR5.out.out.next (W' := w5.setCell ⟨Hb, i * 16 + k, none⟩ (.bool true)) (fun g hg => Below.heap_setCell _ _ _ _ (fun e => HNE.out (by rw [hg]; exact congrArg some e))))
                        have HB6 := Lib.hid (below_setc (a := ⟨Hb, i * 16 + k, none⟩) (u := .bool true) HR5.out.bel HR5.out.hb)
                        have HHL := Lib.hid (show Hb < (w5.setCell ⟨Hb, i * 16 + k, none⟩ (.bool true)).heap.size from by have := (Array.getElem?_eq_some_iff.1 HH5.out).1; simpa using this)
                        have HHW := Lib.hid HR5.out.hb
                        have HLN := Lib.hid (show s2.r.length ≤ 1000 by have := HOK.out.2; omega)
                        obtain ⟨W6, hW6⟩ : ∃ W6, w5.setCell ⟨Hb, i * 16 + k, none⟩ (.bool true) = W6 := ⟨_, rfl⟩
                        rw [hW6] at HD6 HO6 HB6 HHL
                        obtain ⟨f0, f1⟩ := HCW.out W6 HB6.out
                        obtain ⟨p0, p1⟩ := HCP.out W6 HB6.out
                        clear HSS HNX
                        go_wp2_with (at_builtin; refine wpList_append_mod (u := W6) rfl _ _ rfl w _ s2.r m F G cf cg nf ng _ rfl rfl rfl rfl HNN.out.1 HNN.out.2 HO6.out HMU.out HLN.out HB6.out.size ?_; intro v' w7 ho7 hg7 hat7)
                        have HR7 := Lib.hid (show RefAt l w Hb ⟨fun q => q == offL l i + k || s2.t q, s2.r ++ [m]⟩ v' w7 from by
                          have hgrow : ∀ q, q < W6.heap.size → (Value.slice A4 s2.r.length c4).ownBlock ≠ some q → w7.heap[q]? = W6.heap[q]? := fun q q1 q2 => (hg7.block q (by simp; omega) (fun e => q2 e.symm)).trans (Lib.alloc_old _ _ _ q1)
                          refine ⟨ho7, HD6.out.next (hgrow _ HHL.out HNE.out), (bthen HB6.out (balloc (Below.refl _ W6) _)).grown hg7 (by have := HB6.out.size; simp; omega) (fun q hq => by obtain ⟨ys, ho, -⟩ := HO6.out; exact (ho.lt q hq).1), HHW.out, fun e => ?_⟩
                          rcases hat7 _ e with e2 | e2
                          · exact HNE.out e2
                          · have := HHL.out; omega)
                        clear ho7 hg7 hat7 p0 p1 f0 f1
                        go_wp2_with fail
                        go_roundw
                        case rel => exact ⟨k + 1, true, ⟨fun q => q == offL l i + k || s2.t q, s2.r ++ [m]⟩, by go_num, HLK.out, rfl, HR7.out, fun h => Bool.noConfusion h, fun _ => HONE.out⟩
                        case measure => have := HLK.out; simp [intOf]; omega
end Go.Proofs.Ytcfniagmnkngfaa
