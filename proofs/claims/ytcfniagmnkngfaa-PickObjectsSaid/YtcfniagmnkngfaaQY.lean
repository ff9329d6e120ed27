/- PickObjects: where there are no archives, all objects are taken, as they are: the walk. -/
import Derived.Test.YtcfniagmnkngfaaQT
namespace Go.Proofs.Ytcfniagmnkngfaa
open Go.RowKit

set_option maxRecDepth 100000 in
set_option maxHeartbeats 8000000 in
theorem objects_all (l : List Fl) (A : Option Addr) (c : Nat) (w : World) (hok : ∀ f ∈ l, FlW f) (h9 : l.length ≤ 4398046511104) (hS : Files w (.slice A l.length c) l) :
    Calls Try.prog 10 #[.slice A l.length c] w fun e w' => e = .returned (.bool true) ∧ Below w.heap.size w w' := by
  have HS := Lib.hid hS
  have HT := Lib.hid (fun (U : World) (hU : Below w.heap.size w U) => pickTake_any l A l.length c U rfl (by omega) (fun f hf => (hok f hf).1) (hS.next hU))
  have HOK := Lib.hid (fun f hf => (hok f hf).1)
  obtain ⟨n, hn⟩ : ∃ n, l.length = n := ⟨_, rfl⟩
  rw [hn] at HT HS h9 ⊢
  have HN := Lib.hid (show l.length ≤ n ∧ n ≤ l.length by omega)
  have HN9 := Lib.hid h9
  have n1 : (n : Int) ≤ 9223372036854775807 := by omega
  have n0 : (0 : Int) ≤ (n : Int) := Int.natCast_nonneg _
  clear hok h9 hS hn
  go_enter Try.func10, Try.ntmps10
  go_wp2_with fail
  refine (pshown_any w).mono ?_
  rintro r w1 ⟨rfl, hb1⟩
  have HB1 := Lib.hid hb1
  clear hb1
  go_wp2_with fail
  go_loopw [4, 5] (fun mv iv wr => ∃ i : Nat, i ≤ n ∧ iv = .int .i64 i ∧ OutIn w mv (modsOf (l.take i)) wr ∧ (modsOf (l.take i)).length = i ∧ (∀ f ∈ l.take i, f.a = false) ∧ Below w.heap.size w wr) (fun _ iv _ => n - (intOf iv).toNat)
  case atStart => exact ⟨0, Nat.zero_le _, rfl, ⟨[], World.ownsRow_nil _ _ _ _, fun j hj => by simp [modsOf] at hj⟩, rfl, by simp, HB1.out⟩
  case round =>
    obtain ⟨i, hi, rfl, ho, hl, ha, hb⟩ := hrel
    have HO := Lib.hid ho
    have HLN := Lib.hid hl
    have HA := Lib.hid ha
    have HB := Lib.hid hb
    clear hb ho hl ha
    by_cases hlt : i < n
    · have hm : i < l.length := by have := HN.out; omega
      obtain ⟨b1, off, hA, hbl, e0⟩ := RowOf.at_ HS.out hm
      subst hA
      obtain ⟨g0w, A3, z3, g1w, hmods⟩ := e0
      have g0 := (cellNext hbl HB.out _).trans g0w
      have g1 := (cellNext hbl HB.out _).trans g1w
      clear g0w g1w
      have HSU := Lib.hid (modsOf_take hm)
      have HTK := Lib.hid (show l.take (i + 1) = l.take i ++ [l[i]] from List.take_succ_eq_append_getElem hm)
      obtain ⟨⟨x0, ms⟩, hx⟩ : ∃ z, l[i] = z := ⟨_, rfl⟩
      rw [hx] at g0 g1 hmods HSU HTK
      simp only at g0 g1 hmods HSU
      obtain ⟨x1, h1⟩ : ∃ z, ms.length = z := ⟨_, rfl⟩
      rw [h1] at g1 hmods
      have HM := Lib.hid hmods
      have HML := Lib.hid h1
      have hk0 : (0 : Int) ≤ (i : Int) := Int.natCast_nonneg _
      have hk1 : (i : Int) < (n : Int) := by omega
      have HLT := Lib.hid hlt
      clear h1 hm hlt hbl hmods hx
      cases x0 with
      | true =>
        go_wp2_with fail
        go_ret
        exact ⟨rfl, HB.out⟩
      | false =>
        by_cases hx : x1 = 1
        · subst hx
          obtain ⟨m0, rfl⟩ : ∃ m0, ms = [m0] := List.length_eq_one_iff.1 HML.out
          obtain ⟨b2, off2, hA2, hbl2, e2⟩ := RowOf.at_ (i := 0) HM.out (by simp)
          subst hA2
          obtain ⟨F, cf, G, cg, p0, p1, hmd⟩ := e2
          have p0 := (cellNext hbl2 HB.out _).trans p0
          have p1 := (cellNext hbl2 HB.out _).trans p1
          simp only [Nat.zero_mul, Nat.add_zero, List.getElem_cons_zero] at p0 p1 hmd
          have HMU := Lib.hid (fun (U : World) (hU : Below w.heap.size w U) => hmd.next hU)
          obtain ⟨nf, hnf⟩ : ∃ q, m0.f.length = q := ⟨_, rfl⟩
          obtain ⟨ng, hng⟩ : ∃ q, m0.g.length = q := ⟨_, rfl⟩
          rw [hnf] at p0 HMU
          rw [hng] at p1 HMU
          have HNF := Lib.hid hnf
          have HNG := Lib.hid hng
          clear hmd hnf hng hbl2
          go_wp2_with (at_builtin; go_loud (refine wpList_append_modB (u := wr) rfl _ _ rfl w _ _ m0 F G cf cg nf ng _ rfl rfl rfl rfl HNF.out HNG.out HO.out HMU.out (by have := HLN.out; have := HLT.out; have := HN9.out; omega) HB.out ?_; intro v' w2 ho2 hb2; have HO2 := Lib.hid ho2; have HB2 := Lib.hid hb2; clear ho2 hb2))
          go_roundw
          case rel => exact ⟨i + 1, HLT.out, by go_num, by rw [HSU.out]; exact HO2.out, by rw [HSU.out, List.length_append, HLN.out]; rfl, fun f hf => by rw [HTK.out] at hf; rcases List.mem_append.1 hf with h | h; exact HA.out f h; simp at h; subst h; rfl, HB2.out⟩
          case measure => have := HLT.out; simp [intOf]; omega
        · have n2 : (x1 == 1) = false := by simpa using hx
          have n2' : ((x1 : Int) == 1) = false := by simp; omega
          go_wp2_with fail
          go_ret
          exact ⟨rfl, HB.out⟩
    · have hd : decide ((i : Int) < (n : Int)) = false := by simp; omega
      have hE : l.take i = l := List.take_of_length_le (by have := HN.out; omega)
      have HO2 := HO.out
      rw [hE] at HO2
      obtain ⟨AM, cM, hv⟩ := HO2.slice
      subst hv
      have HMO := Lib.hid (HO2.mods HB.out)
      have HLM := Lib.hid (show (modsOf l).length = i from hE ▸ HLN.out)
      have HAL := Lib.hid (show ∀ f ∈ l, f.a = false from hE ▸ HA.out)
      have HT1 := Lib.hid (HT.out _ HB.out)
      obtain ⟨K, hK⟩ : ∃ K, modsOf l = K := ⟨_, rfl⟩
      have HTK := Lib.hid (show Taken (flat l) K from hK ▸ taken_objs HAL.out)
      rw [hK] at HMO HLM ⊢
      have HI := Lib.hid (show i ≤ 4398046511104 by have := HN9.out; omega)
      rw [HLM.out] at HMO ⊢
      clear HO2 hE HO HLN HA HT HS hK HAL
      go_wp2_with fail
      refine HT1.out.mono ?_
      rintro r w2 ⟨hb2, hcase⟩
      rcases hcase with ⟨hne, rfl⟩ | ⟨hg, rr, A2, c2, htk, rfl, hmods, -⟩
      · obtain ⟨V, hV⟩ : ∃ V, pickE l = V := ⟨_, rfl⟩
        rw [hV] at hne ⊢
        have n4 : (V == 0) = false := by simpa using hne
        have HB3 := Lib.hid (bthen HB.out hb2)
        clear hb2 hV
        go_wp2_with fail
        go_ret
        exact ⟨rfl, HB3.out⟩
      · have hrr : rr = K := taken_fun htk HTK.out
        subst hrr
        rw [HLM.out] at hmods ⊢
        have HB3 := Lib.hid (bthen HB.out hb2)
        have HMD := Lib.hid (show Calls Try.prog 26 #[.slice A2 i c2, .slice AM i cM] w2 fun e w' => e = .returned (.bool true) ∧ Below w2.heap.size w2 w' from by
          have h := refMods_any rr rr A2 AM i c2 i cM w2 HLM.out HLM.out (by have := HI.out; omega) (taken_mdOk hg htk) (taken_mdOk hg htk) hmods (HMO.out.next hb2)
          rwa [listB_refl sameM_refl] at h)
        clear hb2 htk hmods hg
        go_wp2_with fail
        refine HMD.out.mono ?_
        rintro r w3 ⟨rfl, hb3⟩
        have HB4 := Lib.hid (bthen HB3.out hb3)
        clear hb3
        go_wp2_with fail
        go_ret
        exact ⟨rfl, HB4.out⟩
end Go.Proofs.Ytcfniagmnkngfaa

namespace Go.Proofs.Ytcfniagmnkngfaa
open Go.RowKit Go.Deep Go.ChangeShapes Go.WideShapes
section
variable {H : Type} {enc : TypeId × Value → H} {W : World} {base : Nat} {spare : Nat → Bool} {held : Bool}
theorem bytesFile : Try.prog.bytesOf 55 = 32 := by kernel_rfl
set_option maxRecDepth 100000 in
theorem argw_files_room {r : Reach} {b0 : Nat} {v : Value} {d : DataW H} {p : List MemPlace} (hv : Value.okWide Try.prog W r b0 41 v) (h : DataW.Trod enc Try.prog W base spare held 41 v d p) (hz : ∀ k ∈ d.weights Try.prog 41, k ≤ reachBytes) :
    ∃ (l : List Fl) (A : Option Addr) (c : Nat), v = .slice A l.length c ∧ (∀ f ∈ l, FlW f) ∧ Files W (.slice A l.length c) l ∧ l.length ≤ 4398046511104 := by
  obtain ⟨a, n, c, rfl⟩ := okWide_slice Try.underlying41 hv
  obtain ⟨fuel, hf⟩ := h
  obtain ⟨A, cap, l, e, hr, ho, h1, h2, h3⟩ := open_roww FlIn FlW Try.underlying41 cellsFile (by omega) openw_file_at (c := .slice a n c) hf hz
  rw [bytesFile] at h3
  rw [e] at hr
  exact ⟨l, A, cap, e, ho, hr, by omega⟩
end
end Go.Proofs.Ytcfniagmnkngfaa
