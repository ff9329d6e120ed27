/- Package resolve: can a program begin, and the first error. Package resolve: Names and All. The reference of package resolve: Names. The reference of package resolve: def, a name's definition. The reference of package resolve: All. Package resolve: the document's example. -/
import Derived.Test.YtniolkjeblocaaaSC
import Derived.Test.YtniolkjeblocaaaSB
namespace Go.Proofs.Ytniolkjeblocaaa
open Go.RowKit Go.Maps

def mainS : ByteArray := ⟨#[109, 97, 105, 110]⟩
def k0 (g : Gp) : Bool := match g.l with
  | [] => false
  | y :: _ => y.f && y.p == 0
theorem k0_at {g : Gp} {y : Ri} (h : g.l[0]? = some y) : k0 g = (y.f && y.p == 0) := by
  unfold k0
  match hq : g.l with
  | [] => rw [hq] at h; simp at h
  | z :: zs =>
    rw [hq] at h
    have e : z = y := by simpa using h
    rw [e]
def entB (G : List Gp) : Bool := G.any (fun g => g.s == mainS && (k0 g && g.l.any dfB))
def entE (G : List Gp) : Int := if entB G = true then 0 else 11
theorem ent_at {G : List Gp} (hn : (G.map (·.s)).Nodup) {k : Nat} (hk : k < G.length) (e : G[k].s = mainS) : entB G = (k0 G[k] && G[k].l.any dfB) := by
  unfold entB
  cases hv : (k0 G[k] && G[k].l.any dfB) with
  | true => exact List.any_eq_true.2 ⟨G[k], List.getElem_mem hk, by rw [hv, (jba_beq _ _).2 e]; rfl⟩
  | false =>
    rw [List.any_eq_false]
    intro g hg
    obtain ⟨j, hj, rfl⟩ := List.getElem_of_mem hg
    by_cases ej : G[j].s = mainS
    · have := nodup_at hn (i := j) (j := k) (by simpa using hj) (by simpa using hk) (by rw [List.getElem_map, List.getElem_map, ej, e])
      subst this
      rw [hv]
      simp
    · rw [(str_otherD ej).1]
      simp
theorem ent_no {G : List Gp} (h : G.any (fun g => g.s == mainS) = false) : entB G = false := by
  unfold entB
  rw [List.any_eq_false] at h ⊢
  intro g hg
  have := h g hg
  rw [Bool.not_eq_true] at this
  rw [this]
  simp
set_option maxRecDepth 100000 in
set_option maxHeartbeats 4000000 in
theorem entry_any (G : List Gp) (A : Option Addr) (n c mb : Nat) (w : World) (hG : Tbl w (.slice A n c) mb G) (hg : ∀ g ∈ G, ∃ y, g.l[0]? = some y) (hnd : (G.map (·.s)).Nodup) (h9 : ∀ g ∈ G, g.l.length ≤ 9223372036854775807) (hn9 : n ≤ 9223372036854775807) :
    Calls Try.prog 71 #[.agg #[.slice A n c, .map (some mb)]] w fun e w' => e = .returned (.int .i64 (entE G)) ∧ Below w.heap.size w w' := by
  have hn : G.length = n := RowOf.len hG.1
  have HB0 := Lib.hid (balloc (Below.refl _ w) (.cells #[.slice A n c, .map (some mb)] 82))
  have HQ := Lib.hid (fun (U : World) (hU : Below (w.alloc (.cells #[.slice A n c, .map (some mb)] 82)).heap.size (w.alloc (.cells #[.slice A n c, .map (some mb)] 82)) U) => (show U.cell? ⟨w.heap.size, 0, none⟩ = some (.slice A n c) from by
    have h := (hU.block w.heap.size (by simp)).trans (heap_alloc_new w _)
    exact Lib.cell_of_heap h 0))
  obtain ⟨hS, kk, D, hD, hix1, hix2⟩ := hG.next HB0.out
  obtain ⟨v, ps, hr, hv⟩ := hD.look_ok skeyed Try.underlying80 (Try.zeroValue3 _) (ixR_of 0) (skey_of (s := mainS) (by decide))
  cases hq : G.any (fun g => g.s == mainS) with
  | false =>
    have h4 : Maps.has D (slit mainS) = false := by rw [hix1, List.any_map]; exact hq
    rw [Maps.atKey_of_not_has h4] at hv
    rw [h4, ixR_inv hv] at hr
    unfold mainS at hr
    have HE := Lib.hid (show entE G = 11 by unfold entE; rw [ent_no hq]; rfl)
    clear hS hD hix1 hix2 hv h4 hq hG hg hnd h9 hn hn9
    go_enter Try.func71, Try.ntmps71
    go_wp2_with fail
    go_ret
    exact ⟨by rw [HE.out]; rfl, HB0.out⟩
  | true =>
    obtain ⟨k, hk, e⟩ := any_at hq
    have h4 : Maps.has D (slit mainS) = true := by rw [hix1, List.any_map]; exact hq
    have h5 := hix2 k (by simpa using hk) (.lit (.int .i64 0))
    rw [List.getElem_map, e] at h5
    rw [h5] at hv
    rw [h4, ixR_inv hv] at hr
    unfold mainS at hr
    obtain ⟨b1, off, hA, hbl, g0, A2, c2, g1, hc2, hrs⟩ := RowOf.at_ hS hk
    subst hA
    obtain ⟨y, hy⟩ := hg _ (List.getElem_mem hk)
    have hen := ent_at hnd hk e
    rw [k0_at hy] at hen
    have h9k := h9 _ (List.getElem_mem hk)
    obtain ⟨s, l, hsl⟩ : ∃ s l, G[k] = ⟨s, l⟩ := ⟨_, _, rfl⟩
    rw [hsl] at g0 g1 hc2 hrs hy hen h9k
    dsimp only at g0 g1 hc2 hrs hy hen h9k
    obtain ⟨m, hm⟩ : ∃ m, l.length = m := ⟨_, rfl⟩
    rw [hm] at g1 hc2 hrs h9k
    have HK := Lib.hid (fun (U : World) (hU : Below (w.alloc (.cells #[.slice (some ⟨b1, off, none⟩) n c, .map (some mb)] 82)).heap.size (w.alloc (.cells #[.slice (some ⟨b1, off, none⟩) n c, .map (some mb)] 82)) U) => kind_any s y l A2 m c2 U hm h9k hy (hrs.next hU))
    have HH := Lib.hid (fun (U : World) (hU : Below (w.alloc (.cells #[.slice (some ⟨b1, off, none⟩) n c, .map (some mb)] 82)).heap.size (w.alloc (.cells #[.slice (some ⟨b1, off, none⟩) n c, .map (some mb)] 82)) U) => has_any dfB _ #[] s l A2 m c2 U hm h9k (hrs.next hU) cf_df (fun x _ V _ => df_any x V))
    have HG := Lib.hid (fun (U : World) (hU : Below (w.alloc (.cells #[.slice (some ⟨b1, off, none⟩) n c, .map (some mb)] 82)).heap.size (w.alloc (.cells #[.slice (some ⟨b1, off, none⟩) n c, .map (some mb)] 82)) U) => (show U.cell? ⟨b1, off + k * 2, none⟩ = some (.string s) ∧ U.cell? ⟨b1, off + k * 2 + 1, none⟩ = some (.slice A2 m c2) from ⟨(cellNext hbl hU _).trans g0, (cellNext hbl hU _).trans g1⟩))
    obtain ⟨bd, hbd⟩ : ∃ b, l.any dfB = b := ⟨_, rfl⟩
    rw [hbd] at hen HH
    have k1 : (0 : Int) ≤ (k : Int) := Int.natCast_nonneg _
    have k2 : (k : Int) < (n : Int) := by omega
    have n9 : (n : Int) ≤ 9223372036854775807 := by omega
    have HEN := Lib.hid hen
    clear hS hD hix1 hix2 hv h4 h5 hq hG hg hnd h9 hn hn9 hsl hy hm hc2 hrs h9k hbd hen e hk hbl
    obtain ⟨s0, o0, f0, p0, b0, h0⟩ := y
    dsimp only at HK HEN
    have fin : ∀ b, entB G = b → entE G = if b = true then 0 else 11 := fun b h => by unfold entE; rw [h]
    cases f0 with
    | false =>
      have HE := Lib.hid (show entE G = 11 from fin false (by rw [HEN.out]; rfl))
      clear HEN fin
      by_cases hp : p0 = 0
      · subst hp
        go_enter Try.func71, Try.ntmps71
        go_wp2_with fail
        refine (HK.out _ (Below.refl _ _)).mono ?_
        rintro r w1 ⟨rfl, hb1⟩
        have HB1 := Lib.hid hb1
        have q0 := HQ.out _ hb1
        obtain ⟨g0, g1⟩ := HG.out _ hb1
        clear hb1 hr
        go_wp2_with fail
        go_ret
        exact ⟨by rw [HE.out]; rfl, bthen HB0.out HB1.out⟩
      · go_enter Try.func71, Try.ntmps71
        go_wp2_with fail
        refine (HK.out _ (Below.refl _ _)).mono ?_
        rintro r w1 ⟨rfl, hb1⟩
        have HB1 := Lib.hid hb1
        have q0 := HQ.out _ hb1
        obtain ⟨g0, g1⟩ := HG.out _ hb1
        clear hb1 hr
        go_wp2_with fail
        go_ret
        exact ⟨by rw [HE.out]; rfl, bthen HB0.out HB1.out⟩
    | true =>
      by_cases hp : p0 = 0
      · subst hp
        cases bd with
        | false =>
          have HE := Lib.hid (show entE G = 11 from fin false (by rw [HEN.out]; rfl))
          clear HEN fin
          go_enter Try.func71, Try.ntmps71
          go_wp2_with fail
          refine (HK.out _ (Below.refl _ _)).mono ?_
          rintro r w1 ⟨rfl, hb1⟩
          have HB1 := Lib.hid hb1
          have q0 := HQ.out _ hb1
          obtain ⟨g0, g1⟩ := HG.out _ hb1
          clear hb1 hr
          go_wp2_with fail
          refine (HH.out _ HB1.out).mono ?_
          rintro r w2 ⟨rfl, hb2⟩
          have HB2 := Lib.hid (bthen HB1.out hb2)
          clear hb2
          go_wp2_with fail
          go_ret
          exact ⟨by rw [HE.out]; rfl, bthen HB0.out HB2.out⟩
        | true =>
          have HE := Lib.hid (show entE G = 0 from fin true (by rw [HEN.out]; rfl))
          clear HEN fin
          go_enter Try.func71, Try.ntmps71
          go_wp2_with fail
          refine (HK.out _ (Below.refl _ _)).mono ?_
          rintro r w1 ⟨rfl, hb1⟩
          have HB1 := Lib.hid hb1
          have q0 := HQ.out _ hb1
          obtain ⟨g0, g1⟩ := HG.out _ hb1
          clear hb1 hr
          go_wp2_with fail
          refine (HH.out _ HB1.out).mono ?_
          rintro r w2 ⟨rfl, hb2⟩
          have HB2 := Lib.hid (bthen HB1.out hb2)
          clear hb2
          go_wp2_with fail
          go_ret
          exact ⟨by rw [HE.out]; rfl, bthen HB0.out HB2.out⟩
      · have hq2 : (p0 == 0) = false := by simpa using hp
        have HE := Lib.hid (show entE G = 11 from fin false (by rw [HEN.out, hq2]; rfl))
        clear HEN fin
        go_enter Try.func71, Try.ntmps71
        go_wp2_with fail
        refine (HK.out _ (Below.refl _ _)).mono ?_
        rintro r w1 ⟨rfl, hb1⟩
        have HB1 := Lib.hid hb1
        have q0 := HQ.out _ hb1
        obtain ⟨g0, g1⟩ := HG.out _ hb1
        clear hb1 hr
        go_wp2_with fail
        go_ret
        exact ⟨by rw [HE.out]; rfl, bthen HB0.out HB1.out⟩
/-- the error of all -/
def tblE (G : List Gp) : Int := G.foldl (fun e g => wrE g.l e) (entE G)
theorem wrE_set {xs : List Ri} {e : Int} (h : e = 0 ∨ e = 11 ∨ e = 8 ∨ e = 9 ∨ e = 10) : wrE xs e = 0 ∨ wrE xs e = 11 ∨ wrE xs e = 8 ∨ wrE xs e = 9 ∨ wrE xs e = 10 := by
  unfold wrE wrV
  split
  · omega
  · split
    · omega
    · split
      · omega
      · exact h
theorem foldE_set (G : List Gp) : ∀ e : Int, (e = 0 ∨ e = 11 ∨ e = 8 ∨ e = 9 ∨ e = 10) → (let r := G.foldl (fun e g => wrE g.l e) e; r = 0 ∨ r = 11 ∨ r = 8 ∨ r = 9 ∨ r = 10) := by
  induction G with
  | nil => exact fun e h => h
  | cons g G ih => exact fun e h => ih _ (wrE_set h)
theorem entE_set (G : List Gp) : entE G = 0 ∨ entE G = 11 ∨ entE G = 8 ∨ entE G = 9 ∨ entE G = 10 := by
  unfold entE
  split <;> simp
set_option maxRecDepth 100000 in
set_option maxHeartbeats 4000000 in
theorem tblWrong_any (G : List Gp) (A : Option Addr) (n c mb : Nat) (w : World) (hG : Tbl w (.slice A n c) mb G) (hg : ∀ g ∈ G, ∃ y, g.l[0]? = some y) (hnd : (G.map (·.s)).Nodup) (h9 : ∀ g ∈ G, g.l.length ≤ 9223372036854775807) (hn9 : n ≤ 9223372036854775807) :
    Calls Try.prog 47 #[.agg #[.slice A n c, .map (some mb)]] w fun e w' => e = .returned (.int .i64 (tblE G)) ∧ Below w.heap.size w w' := by
  have HN := Lib.hid (show G.length ≤ n ∧ n ≤ G.length by have := RowOf.len hG.1; omega)
  have HB0 := Lib.hid (balloc (Below.refl _ w) (.cells #[.slice A n c, .map (some mb)] 82))
  have HEN := Lib.hid (fun (U : World) (hU : Below w.heap.size w U) => entry_any G A n c mb U (hG.next hU) hg hnd h9 hn9)
  have HS := Lib.hid hG.1
  have HGG := Lib.hid hg
  have H9 := Lib.hid h9
  have n9 : (n : Int) ≤ 9223372036854775807 := by omega
  clear hG hg hnd h9 hn9
  obtain ⟨E0, hE0⟩ : ∃ E, entE G = E := ⟨_, rfl⟩
  have HE0 := Lib.hid (show E0 = 0 ∨ E0 = 11 ∨ E0 = 8 ∨ E0 = 9 ∨ E0 = 10 from hE0 ▸ entE_set G)
  have HTE := Lib.hid (show tblE G = G.foldl (fun e g => wrE g.l e) E0 by unfold tblE; rw [hE0])
  rw [hE0] at HEN
  clear hE0
  go_enter Try.func47, Try.ntmps47
  go_wp2_with fail
  refine (HEN.out _ HB0.out).mono ?_
  rintro r w1 ⟨rfl, hb1⟩
  have HB1 := Lib.hid (bthen HB0.out hb1)
  have hx := (hb1.block w.heap.size (by simp)).trans (heap_alloc_new w _)
  have q0 := Lib.cell_of_heap hx 0
  have q1 := Lib.cell_of_heap hx 1
  simp only [List.getElem?_toArray, List.getElem?_cons_zero, List.getElem?_cons_succ] at q0 q1
  clear hx hb1
  go_wp2_with fail
  clear q0 q1
  go_loopw [3, 11] (fun ev iv wr => ∃ i : Nat, i ≤ n ∧ iv = .int .i64 i ∧ ev = .int .i64 ((G.take i).foldl (fun e g => wrE g.l e) E0) ∧ Below w.heap.size w wr) (fun _ iv _ => n - (intOf iv).toNat)
  case atStart => exact ⟨0, Nat.zero_le _, rfl, rfl, HB1.out⟩
  case round =>
    obtain ⟨i, hi, rfl, rfl, hb⟩ := hrel
    have HB := Lib.hid hb
    by_cases hlt : i < n
    case neg =>
      have hd : decide ((i : Int) < (n : Int)) = false := by simp; omega
      have HV := Lib.hid (show (G.take i).foldl (fun e g => wrE g.l e) E0 = tblE G by rw [HTE.out, List.take_of_length_le (by have := HN.out; omega)])
      go_wp2_with fail
      go_ret
      exact ⟨by rw [HV.out]; rfl, HB.out⟩
    have hm : i < G.length := by have := HN.out; omega
    have HFO := Lib.hid (show (G.take (i + 1)).foldl (fun e g => wrE g.l e) E0 = wrE G[i].l ((G.take i).foldl (fun e g => wrE g.l e) E0) by rw [List.take_succ_eq_append_getElem hm, List.foldl_append]; rfl)
    obtain ⟨e, he⟩ : ∃ e, (G.take i).foldl (fun e g => wrE g.l e) E0 = e := ⟨_, rfl⟩
    have HES := Lib.hid (show e = 0 ∨ e = 11 ∨ e = 8 ∨ e = 9 ∨ e = 10 from he ▸ foldE_set _ _ HE0.out)
    rw [he] at HFO ⊢
    clear he
    obtain ⟨b1, off, hA, hbl, g0, A2, c2, g1, hc2, hrs⟩ := RowOf.at_ (HS.out.next hb) hm
    subst hA
    obtain ⟨y, hy⟩ := HGG.out _ (List.getElem_mem hm)
    have h9k := H9.out _ (List.getElem_mem hm)
    obtain ⟨s, l, hsl⟩ : ∃ s l, G[i] = ⟨s, l⟩ := ⟨_, _, rfl⟩
    rw [hsl] at g0 g1 hc2 hrs hy h9k HFO
    dsimp only at g0 g1 hc2 hrs hy h9k HFO
    obtain ⟨m, hml⟩ : ∃ m, l.length = m := ⟨_, rfl⟩
    rw [hml] at g1 hc2 hrs h9k
    have HW := Lib.hid (fun (U : World) (hU : Below wr.heap.size wr U) => wrong_any s y l A2 m c2 e U HES.out hml h9k hc2 hy (hrs.next hU))
    have HBA := Lib.hid (balloc (Below.refl _ wr) (.cells #[.string s, .slice A2 m c2] 87))
    obtain ⟨e', he'⟩ : ∃ e', wrE l e = e' := ⟨_, rfl⟩
    rw [he'] at HFO HW
    have i0 : (0 : Int) ≤ (i : Int) := Int.natCast_nonneg _
    have i1 : (i : Int) < (n : Int) := by omega
    have HLT := Lib.hid hlt
    clear hsl hy h9k hml hc2 hrs hb hlt hm hbl he'
    go_wp2_with fail
    refine (HW.out _ HBA.out).mono ?_
    rintro r w2 ⟨rfl, hb2⟩
    have HB2 := Lib.hid (bthen HB.out (bthen HBA.out hb2))
    clear hb2
    go_wp2_with fail
    go_roundw
    case rel => exact ⟨i + 1, HLT.out, by go_num, by rw [HFO.out], HB2.out⟩
    case measure => have := HLT.out; simp [intOf]; omega
end Go.Proofs.Ytniolkjeblocaaa

namespace Go.Proofs.Ytniolkjeblocaaa
open Go.RowKit Go.Maps

/-- append of one string -/
theorem wpList_append_str {W u : World} {ops : Array Oper} {rest : List Oper} {o : Oper} {a : Act} {Q : Exit → Act → World → Prop} (hgd : o.guard = none) (s x : Operand)
    (ho : o.op = .call { callee := .builtin .append, args := #[s, x], argTypes := #[36, 36] }) (w : World) (v : Value) (r : List ByteArray) (m : ByteArray) (H : Nat) (hs : a.eval s = v) (hx : a.eval x = .slice (some ⟨H, 0, none⟩) 1 1)
    (hH : u.heap.size = H) (hW : W = u.alloc (.cells #[.string m] 9)) (hO : OwnsN u w.heap.size v r) (hn : (r.length + 1) * 16 ≤ 140737488355328) (hb : Below w.heap.size w u)
    (h : ∀ v' w', OwnsN w' w.heap.size v' (r ++ [m]) → Below w.heap.size w w' → wpList Try.prog ops Q rest (a.put o.dst v') w') : wpList Try.prog ops Q (o :: rest) a W := by
  have hbW : Below w.heap.size w W := by rw [hW]; exact bthen hb (balloc (Below.refl _ u) _)
  subst hH hW
  have ho1 : u.ownsRow w.heap.size 9 1 v r.length (strRow r) := hO
  obtain ⟨i0, hi0, hz0, hz1, hz2⟩ := info_parts str_info
  have hnw := World.news_of_block (cs := #[.string m]) (heap_alloc_new u (.cells #[.string m] 9))
  refine wpList_append_own _ hgd s x 36 ho w.heap.size 9 i0 _ 1 16 Try.underlying36 hi0 hz0 hz1 hz2 rfl (by decide) v r.length (strRow r) hs (ho1.alloc _) ⟨u.heap.size, 0, none⟩ 1 1 [.string m] hx rfl hnw (by simp [Value.oneCell']) (by unfold maxLen; omega) hn hbW.size (fun v' w' h1 h2 _ => h v' w' ?_ (hbW.grown h2 hbW.size (fun q hq => (ho1.lt q hq).1)))
  unfold OwnsN
  rw [List.length_append]
  simpa [strRow] using h1
theorem ownsN_quiet {W W' : World} {base : Nat} {v : Value} {l : List ByteArray} (h : OwnsN W base v l) (hb : Below W.heap.size W W') : OwnsN W' base v l := by
  have h' : W.ownsRow base 9 1 v l.length (strRow l) := h
  exact ownsRow_atv h' (fun g hg => hb.block g (h'.lt g hg).2)
theorem tab_fld (a b : Value) (U : World) : (Instr.field 82 (.agg #[a, b]) 0).run Try.prog U = .ok a U := by kernel_rfl
theorem grp_len (xs : List Ri) : (grp xs).length ≤ xs.length := by
  have h : ((grp xs).map (·.s)).length = (namesU xs).length := by rw [grp_names]
  rw [List.length_map] at h
  rw [h]
  exact namesU_le xs
theorem grp_llen {xs : List Ri} {g : Gp} (h : g ∈ grp xs) : g.l.length ≤ xs.length := by
  rw [grp_eq] at h
  obtain ⟨s, hs, rfl⟩ := List.mem_map.1 h
  exact List.length_filter_le _ _
set_option maxRecDepth 100000 in
set_option maxHeartbeats 4000000 in
theorem names_any (ms : List Md) (A : Option Addr) (na ca : Nat) (w : World) (hna : ms.length = na) (hn9 : na ≤ 9223372036854775807) (hok : ∀ m ∈ ms, MdOk m) (hT : ((allI ms ms.length).length + 1) * 56 ≤ 140737488355328) (hS : Mods w (.slice A na ca) ms) :
    Calls Try.prog 25 #[.slice A na ca] w fun e w' => ∃ v, e = .returned v ∧ Strs w' v (namesU (allI ms ms.length)) ∧ Below w.heap.size w w' := by
  have HGA := Lib.hid (gather_any ms A na ca w hna hn9 hok hT hS)
  obtain ⟨G, hG⟩ : ∃ G, grp (allI ms ms.length) = G := ⟨_, rfl⟩
  have HNN := Lib.hid (show G.map (·.s) = namesU (allI ms ms.length) by rw [← hG]; exact grp_names _)
  have HLE := Lib.hid (show (G.length + 1) * 16 ≤ 140737488355328 by have := grp_len (allI ms ms.length); rw [hG] at this; omega)
  rw [hG] at HGA
  clear hG hna hn9 hok hT hS
  go_enter Try.func25, Try.ntmps25
  go_wp2_with fail
  refine HGA.out.mono ?_
  rintro r w1 ⟨v, mb, rfl, hT1, hb1⟩
  obtain ⟨A2, c2, hv⟩ := hT1.1.slice
  obtain ⟨n, hn⟩ : ∃ n, G.length = n := ⟨_, rfl⟩
  rw [hn] at hv HLE
  subst hv
  have HS := Lib.hid hT1.1
  have HB1 := Lib.hid hb1
  have HN := Lib.hid (show G.length ≤ n ∧ n ≤ G.length by omega)
  have n9 : (n : Int) ≤ 9223372036854775807 := by have := HLE.out; omega
  have hfl : ∀ U : World, (Instr.field 82 (.agg #[.slice A2 n c2, .map (some mb)]) 0).run Try.prog U = .ok (.slice A2 n c2) U := fun U => tab_fld _ _ U
  clear hT1 hb1 hn HGA
  go_wp2_with fail
  go_loopw [3, 10] (fun vv iv wr => ∃ i : Nat, i ≤ n ∧ iv = .int .i64 i ∧ OwnsN wr w1.heap.size vv ((G.take i).map (·.s)) ∧ Below w1.heap.size w1 wr) (fun _ iv _ => n - (intOf iv).toNat)
  case atStart => exact ⟨0, Nat.zero_le _, rfl, World.ownsRow_nil _ _ _ _, Below.refl _ _⟩
  case round =>
    obtain ⟨i, hi, rfl, ho, hb⟩ := hrel
    have HO := Lib.hid ho
    have HB := Lib.hid hb
    clear ho
    by_cases hlt : i < n
    case neg =>
      have hd : decide ((i : Int) < (n : Int)) = false := by simp; omega
      have HV := Lib.hid (show Strs _ _ (namesU (allI ms ms.length)) from by have h := OwnsN.strs HO.out; rwa [List.take_of_length_le (by have := HN.out; omega), HNN.out] at h)
      go_wp2_with fail
      go_ret
      exact ⟨_, rfl, HV.out, bthen HB1.out HB.out⟩
    have hm : i < G.length := by have := HN.out; omega
    have HTK := Lib.hid (show (G.take (i + 1)).map (·.s) = (G.take i).map (·.s) ++ [G[i].s] by rw [List.take_succ_eq_append_getElem hm, List.map_append]; rfl)
    have HLT2 := Lib.hid (show ((G.take i).map (·.s)).length ≤ i by rw [List.length_map]; exact List.length_take_le _ _)
    obtain ⟨b1, off, hA, hbl, g0, A3, c3, g1, -, -⟩ := RowOf.at_ (HS.out.next hb) hm
    subst hA
    obtain ⟨s, l, hsl⟩ : ∃ s l, G[i] = ⟨s, l⟩ := ⟨_, _, rfl⟩
    rw [hsl] at g0 g1 HTK
    dsimp only at g0 g1 HTK
    obtain ⟨m, hml⟩ : ∃ m, l.length = m := ⟨_, rfl⟩
    rw [hml] at g1
    have i0 : (0 : Int) ≤ (i : Int) := Int.natCast_nonneg _
    have i1 : (i : Int) < (n : Int) := by omega
    have HLT := Lib.hid hlt
    have HBA := Lib.hid (bthen HB.out (balloc (Below.refl _ wr) (.cells #[.string s, .slice A3 m c3] 87)))
    have HOA := Lib.hid (ownsN_quiet HO.out (balloc (Below.refl _ wr) (.cells #[.string s, .slice A3 m c3] 87)))
    clear hsl hml hb hlt hm hbl
    go_wp2_with (at_builtin; go_loud (refine wpList_append_str (u := wr.alloc (.cells #[.string s, .slice A3 m c3] 87)) rfl _ _ rfl w1 _ _ s _ rfl rfl (by simp) rfl HOA.out (by have := HLT2.out; have := HLE.out; have := HLT.out; omega) HBA.out ?_; intro v' w2 ho2 hb2; have HO2 := Lib.hid ho2; have HB2 := Lib.hid hb2; clear ho2 hb2))
    go_roundw
    case rel => exact ⟨i + 1, HLT.out, by go_num, by rw [HTK.out]; exact HO2.out, HB2.out⟩
    case measure => have := HLT.out; simp [intOf]; omega
/-- rows of definitions of the call's own -/
def dfC (x : Df) : List Value := [.string x.s, .int .i64 x.o, .bool x.f, .bool x.w, .bool x.h]
def OutD (base : Nat) (v : Value) (r : List Df) (W : World) : Prop := W.ownsRow base 49 5 v r.length ((r.map dfC).flatten)
theorem OutD.dfs {base : Nat} {v : Value} {r : List Df} {W : World} (h : OutD base v r W) : Dfs W v r := by
  have ho : W.ownsRow base 49 5 v r.length ((r.map dfC).flatten) := h
  by_cases hl : 0 < r.length
  · obtain ⟨g, cap, e, -, hlt⟩ := ho.form hl
    subst e
    refine .inr ⟨hl, g, 0, cap, rfl, hlt, fun i hi => ?_⟩
    have q : ∀ c, c < 5 → W.cell? ⟨g, 0 + i * 5 + c, none⟩ = (dfC r[i])[c]? := fun c hc => by
      rw [Nat.zero_add, ← flat_at dfC 5 (fun _ => rfl) r i hi c hc]
      exact ho.cellAt _ (by omega)
    exact ⟨q 0 (by omega), q 1 (by omega), q 2 (by omega), q 3 (by omega), q 4 (by omega)⟩
  · have hl0 : r = [] := by cases r <;> simp_all
    subst hl0
    rcases ho.2 with ⟨e, _⟩ | ⟨g, cap, cur, e, _⟩
    · exact .inl ⟨rfl, .inl e⟩
    · exact .inl ⟨rfl, .inr ⟨_, _, e⟩⟩
theorem OutD.quiet {base : Nat} {v : Value} {r : List Df} {W W' : World} (h : OutD base v r W) (hb : Below W.heap.size W W') : OutD base v r W' := by
  have ho : W.ownsRow base 49 5 v r.length ((r.map dfC).flatten) := h
  exact ownsRow_atv ho (fun g hg => hb.block g (ho.lt g hg).2)
theorem dfi_info : (Try.prog.info? 49).map (fun i => (i.zero, i.size, i.bytes)) = some (some (.agg #[.string ⟨#[]⟩, .int .i64 0, .bool false, .bool false, .bool false]), 5, 32) := by kernel_rfl
theorem wpList_append_def {W u : World} {ops : Array Oper} {rest : List Oper} {o : Oper} {a : Act} {Q : Exit → Act → World → Prop} (hgd : o.guard = none) (s x : Operand)
    (ho : o.op = .call { callee := .builtin .append, args := #[s, x], argTypes := #[41, 41] }) (w : World) (v : Value) (r : List Df) (m : Df) (H : Nat) (hs : a.eval s = v) (hx : a.eval x = .slice (some ⟨H, 0, none⟩) 1 1)
    (hH : u.heap.size = H) (hW : W = u.alloc (.cells (dfC m).toArray 49)) (hO : OutD w.heap.size v r u) (hn : (r.length + 1) * 32 ≤ 140737488355328) (hb : Below w.heap.size w u)
    (h : ∀ v' w', OutD w.heap.size v' (r ++ [m]) w' → Below w.heap.size w w' → wpList Try.prog ops Q rest (a.put o.dst v') w') : wpList Try.prog ops Q (o :: rest) a W := by
  have hbW : Below w.heap.size w W := by rw [hW]; exact bthen hb (balloc (Below.refl _ u) _)
  subst hH hW
  have ho1 : u.ownsRow w.heap.size 49 5 v r.length ((r.map dfC).flatten) := hO
  obtain ⟨i0, hi0, hz0, hz1, hz2⟩ := info_parts dfi_info
  have hnw := World.news_of_block (cs := (dfC m).toArray) (heap_alloc_new u (.cells (dfC m).toArray 49))
  refine wpList_append_own _ hgd s x 41 ho w.heap.size 49 i0 _ 5 32 Try.underlying41 hi0 hz0 hz1 hz2 rfl (by decide) v r.length _ hs (ho1.alloc _) ⟨u.heap.size, 0, none⟩ 1 1 (dfC m) hx rfl hnw (by simp [dfC, Value.oneCell']) (by unfold maxLen; omega) hn hbW.size (fun v' w' h1 h2 _ => h v' w' ?_ (hbW.grown h2 hbW.size (fun q hq => (ho1.lt q hq).1)))
  unfold OutD
  rw [List.length_append, List.map_append, List.flatten_append]
  simpa using h1
/-- the definition of a name with its items -/
def defG (g : Gp) : Df := ⟨g.s, (g.l[pickI g.l]?.map (·.o)).getD 0, (g.l[0]?.map (·.f)).getD false, !g.l.any seB, g.l.any dfB⟩
/-- what All answers of definitions -/
def allD (G : List Gp) (E : Int) : List Df := if E = 0 then G.map defG else []
theorem allD_no {G : List Gp} {E : Int} (h : ¬ E = 0) : allD G E = [] := if_neg h
theorem allD_ok (G : List Gp) : allD G 0 = G.map defG := if_pos rfl
set_option maxRecDepth 100000 in
set_option maxHeartbeats 4000000 in
theorem all_any (ms : List Md) (A : Option Addr) (na ca : Nat) (w : World) (hna : ms.length = na) (hn9 : na ≤ 9223372036854775807) (hok : ∀ m ∈ ms, MdOk m) (hT : ((allI ms ms.length).length + 1) * 56 ≤ 140737488355328) (hS : Mods w (.slice A na ca) ms) :
    Calls Try.prog 22 #[.slice A na ca] w fun e w' => ∃ v, e = .returned (.tuple #[v, .int .i64 (tblE (grp (allI ms ms.length)))]) ∧ Dfs w' v (allD (grp (allI ms ms.length)) (tblE (grp (allI ms ms.length)))) ∧ Below w.heap.size w w' := by
  have HGA := Lib.hid (gather_any ms A na ca w hna hn9 hok hT hS)
  have hgl := @grp_llen (allI ms ms.length)
  have hgy := @grp_some (allI ms ms.length)
  obtain ⟨G, hG⟩ : ∃ G, grp (allI ms ms.length) = G := ⟨_, rfl⟩
  have hnd : (G.map (·.s)).Nodup := by rw [← hG, grp_names]; exact namesU_nodup _
  have HLE := Lib.hid (show (G.length + 1) * 32 ≤ 140737488355328 by have := grp_len (allI ms ms.length); rw [hG] at this; omega)
  rw [hG] at HGA hgl hgy ⊢
  have HGY := Lib.hid (show ∀ g ∈ G, ∃ y, g.l[0]? = some y from fun g hg => by obtain ⟨y, h, -⟩ := hgy hg; exact ⟨y, h⟩)
  have HGL := Lib.hid (show ∀ g ∈ G, g.l.length ≤ 9223372036854775807 from fun g hg => by have := hgl hg; omega)
  have HND := Lib.hid hnd
  obtain ⟨E, hE⟩ : ∃ E, tblE G = E := ⟨_, rfl⟩
  have HEQ := Lib.hid hE
  rw [hE]
  clear hG hna hn9 hok hT hS hgl hgy hnd hE
  go_enter Try.func22, Try.ntmps22
  go_wp2_with fail
  refine HGA.out.mono ?_
  rintro r w1 ⟨v, mb, rfl, hT1, hb1⟩
  obtain ⟨A2, c2, hv⟩ := hT1.1.slice
  obtain ⟨n, hn⟩ : ∃ n, G.length = n := ⟨_, rfl⟩
  rw [hn] at hv HLE
  subst hv
  have HT1 := Lib.hid hT1
  have HB1 := Lib.hid hb1
  have HN := Lib.hid (show G.length ≤ n ∧ n ≤ G.length by omega)
  have n9 : (n : Int) ≤ 9223372036854775807 := by have := HLE.out; omega
  have HW := Lib.hid (fun (U : World) (hU : Below w1.heap.size w1 U) => tblWrong_any G A2 n c2 mb U (HT1.out.next hU) HGY.out HND.out HGL.out (by omega))
  have HB0 := Lib.hid (balloc (Below.refl _ w1) (.cells #[.slice A2 n c2, .map (some mb)] 82))
  rw [HEQ.out] at HW
  clear hT1 hb1 hn HGA
  go_wp2_with fail
  refine (HW.out _ HB0.out).mono ?_
  rintro r w2 ⟨rfl, hb2⟩
  have HB2 := Lib.hid (bthen HB0.out hb2)
  have hx := (hb2.block w1.heap.size (by simp)).trans (heap_alloc_new w1 _)
  have q0 := Lib.cell_of_heap hx 0
  simp only [List.getElem?_toArray, List.getElem?_cons_zero] at q0
  clear hx hb2
  by_cases hE0 : E = 0
  case neg =>
    have HNO := Lib.hid (allD_no (G := G) hE0)
    go_wp2_with fail
    go_ret2
    exact ⟨_, rfl, by rw [HNO.out]; exact .inl ⟨rfl, .inl rfl⟩, bthen HB1.out HB2.out⟩
  subst hE0
  go_wp2_with fail
  clear q0
  go_loopw [6, 19] (fun vv iv wr => ∃ i : Nat, i ≤ n ∧ iv = .int .i64 i ∧ OutD w1.heap.size vv ((G.take i).map defG) wr ∧ Below w1.heap.size w1 wr) (fun _ iv _ => n - (intOf iv).toNat)
  case atStart => exact ⟨0, Nat.zero_le _, rfl, World.ownsRow_nil _ _ _ _, HB2.out⟩
  case round =>
    obtain ⟨i, hi, rfl, ho, hb⟩ := hrel
    have HO := Lib.hid ho
    have HB := Lib.hid hb
    clear ho
    by_cases hlt : i < n
    case neg =>
      have hd : decide ((i : Int) < (n : Int)) = false := by simp; omega
      have HV := Lib.hid (show Dfs _ _ (G.map defG) from by have h := OutD.dfs HO.out; rwa [List.take_of_length_le (by have := HN.out; omega)] at h)
      go_wp2_with fail
      go_ret2
      exact ⟨_, rfl, by rw [allD_ok]; exact HV.out, bthen HB1.out HB.out⟩
    have hm : i < G.length := by have := HN.out; omega
    have HTK := Lib.hid (show (G.take (i + 1)).map defG = (G.take i).map defG ++ [defG G[i]] by rw [List.take_succ_eq_append_getElem hm, List.map_append]; rfl)
    have HLT2 := Lib.hid (show ((G.take i).map defG).length ≤ i by rw [List.length_map]; exact List.length_take_le _ _)
    obtain ⟨b1, off, hA, hbl, g0, A3, c3, g1, hc3, hrs⟩ := RowOf.at_ (HT1.out.1.next hb) hm
    subst hA
    obtain ⟨y, hy⟩ := HGY.out _ (List.getElem_mem hm)
    have h9k := HGL.out _ (List.getElem_mem hm)
    obtain ⟨s, l, hsl⟩ : ∃ s l, G[i] = ⟨s, l⟩ := ⟨_, _, rfl⟩
    rw [hsl] at g0 g1 hc3 hrs hy h9k HTK
    dsimp only at g0 g1 hc3 hrs hy h9k
    obtain ⟨m, hml⟩ : ∃ m, l.length = m := ⟨_, rfl⟩
    rw [hml] at g1 hc3 hrs h9k
    have HDF := Lib.hid (fun (U : World) (hU : Below wr.heap.size wr U) => def_any s y l A3 m c3 U hml h9k hy (hrs.next hU))
    have HDG := Lib.hid (fun z (hz : l[pickI l]? = some z) => (show dfC (defG ⟨s, l⟩) = [.string s, .int .i64 z.o, .bool y.f, .bool (!l.any seB), .bool (l.any dfB)] by unfold dfC defG; rw [hz, hy]; rfl))
    have i0 : (0 : Int) ≤ (i : Int) := Int.natCast_nonneg _
    have i1 : (i : Int) < (n : Int) := by omega
    have HLT := Lib.hid hlt
    have HBX := Lib.hid (balloc (Below.refl _ wr) (.cells #[.string s, .slice A3 m c3] 87))
    clear hsl hml hb hlt hm hbl hy h9k hc3 hrs
    obtain ⟨ws, hws⟩ : ∃ b, l.any seB = b := ⟨_, rfl⟩
    obtain ⟨wd, hwd⟩ : ∃ b, l.any dfB = b := ⟨_, rfl⟩
    rw [hws, hwd] at HDG HDF
    clear hws hwd
    go_wp2_with fail
    refine (HDF.out _ HBX.out).mono ?_
    rintro r w3 ⟨⟨z, hz, rfl⟩, hb3⟩
    have HB3 := Lib.hid (bthen HB.out (bthen HBX.out hb3))
    have HO3 := Lib.hid (HO.out.quiet (bthen HBX.out hb3))
    have HC := Lib.hid (HDG.out z hz)
    clear hz hb3
    go_wp2_with (at_builtin; go_loud (refine wpList_append_def (u := w3) rfl _ _ rfl w1 _ _ (defG ⟨s, l⟩) _ rfl rfl rfl (by rw [HC.out]) HO3.out (by have := HLT2.out; have := HLE.out; have := HLT.out; omega) HB3.out ?_; intro v' w4 ho2 hb2; have HO2 := Lib.hid ho2; have HB2 := Lib.hid hb2; clear ho2 hb2))
    go_roundw
    case rel => exact ⟨i + 1, HLT.out, by go_num, by rw [HTK.out]; exact HO2.out, HB2.out⟩
    case measure => have := HLT.out; simp [intOf]; omega
end Go.Proofs.Ytniolkjeblocaaa

namespace Go.Proofs.Ytniolkjeblocaaa
open Go.RowKit

theorem namesU_take {xs : List Ri} {i : Nat} (h : i < xs.length) : namesU (xs.take (i + 1)) = addU (namesU (xs.take i)) xs[i] := by
  rw [List.take_succ_eq_append_getElem h, namesU_snoc]
theorem OutR.below2 {w : World} {v : Value} {r : List Ri} {W : World} (h : OutR w v r W) : ∃ A c, v = .slice A r.length c ∧ Rfs W v r := by
  obtain ⟨A, c, e⟩ := h.slice
  exact ⟨A, c, e, h.rfs⟩
set_option maxRecDepth 100000 in
set_option maxHeartbeats 8000000 in
theorem refNames9_any (ms : List Md) (A : Option Addr) (na ca : Nat) (w : World) (hna : ms.length = na) (hn9 : na ≤ 9223372036854775807) (hok : ∀ m ∈ ms, MdOk m) (hT : ((allI ms ms.length).length + 1) * 56 ≤ 140737488355328) (hS : Mods w (.slice A na ca) ms) :
    Calls Try.prog 26 #[.slice A na ca] w fun e w' => ∃ v, e = .returned v ∧ Strs w' v (namesU (allI ms ms.length)) ∧ Below w.heap.size w w' := by
  have HI := Lib.hid (refItems_any ms A na ca w hna hn9 hok (by omega) hS)
  obtain ⟨xs, hxs⟩ : ∃ xs, allI ms ms.length = xs := ⟨_, rfl⟩
  rw [hxs] at HI hT ⊢
  have HT := Lib.hid hT
  clear hna hn9 hok hT hS hxs
  go_enter Try.func26, Try.ntmps26
  go_wp2_with fail
  refine HI.out.mono ?_
  rintro r w1 ⟨v, rfl, hO, hb1⟩
  obtain ⟨A2, c2, hv, hrf⟩ := hO.below2
  obtain ⟨n, hn⟩ : ∃ n, xs.length = n := ⟨_, rfl⟩
  rw [hn] at hv HT
  subst hv
  have HS := Lib.hid hrf
  have HB1 := Lib.hid hb1
  have HN := Lib.hid (show xs.length ≤ n ∧ n ≤ xs.length by omega)
  have n9 : (n : Int) ≤ 9223372036854775807 := by have := HT.out; omega
  clear hb1 hn HI hO hrf
  go_wp2_with fail
  go_loopw [4, 5] (fun vv iv wr => ∃ i : Nat, i ≤ n ∧ iv = .int .i64 i ∧ OwnsN wr w1.heap.size vv (namesU (xs.take i)) ∧ Below w1.heap.size w1 wr) (fun _ iv _ => n - (intOf iv).toNat)
  case atStart => exact ⟨0, Nat.zero_le _, rfl, World.ownsRow_nil _ _ _ _, Below.refl _ _⟩
  case round =>
    obtain ⟨i, hi, rfl, ho, hb⟩ := hrel
    obtain ⟨L, hL⟩ : ∃ L, namesU (xs.take i) = L := ⟨_, rfl⟩
    have HLL := Lib.hid (show L.length ≤ i by
      have h := namesU_le (xs.take i)
      rw [hL] at h
      exact Nat.le_trans h (List.length_take_le _ _))
    have HALL := Lib.hid (show n ≤ i → L = namesU xs from fun h => by rw [← hL, List.take_of_length_le (by have := HN.out; omega)])
    have HNX := Lib.hid (show ∀ h : i < xs.length, namesU (xs.take (i + 1)) = addU L xs[i] from fun h => by rw [namesU_take h, hL])
    rw [hL] at ho
    have HO := Lib.hid ho
    have HB := Lib.hid hb
    obtain ⟨A0, z0, hv0⟩ := ho.form
    obtain ⟨nL, hnL⟩ : ∃ n, L.length = n := ⟨_, rfl⟩
    rw [hnL] at hv0
    subst hv0
    have HNL := Lib.hid (show L.length ≤ nL ∧ nL ≤ L.length by omega)
    clear ho hL
    by_cases hlt : i < n
    case neg =>
      have hd : decide ((i : Int) < (n : Int)) = false := by simp; omega
      have HV := Lib.hid (show Strs _ _ (namesU xs) from by have h := OwnsN.strs HO.out; rwa [HALL.out (by omega)] at h)
      go_wp2_with fail
      go_ret
      exact ⟨_, rfl, HV.out, bthen HB1.out HB.out⟩
    have hm : i < xs.length := by have := HN.out; omega
    obtain ⟨b1, off, hA, hbl, g0, -⟩ := RowOf.at_ HS.out hm
    subst hA
    have HNX1 := Lib.hid (show namesU (xs.take (i + 1)) = if L.any (fun t => t == xs[i].s) = true then L else L ++ [xs[i].s] from HNX.out hm)
    obtain ⟨s, hs⟩ : ∃ s, xs[i].s = s := ⟨_, rfl⟩
    rw [hs] at g0 HNX1
    have HC0 := Lib.hid (fun (U : World) (hU : Below w1.heap.size w1 U) => (cellNext hbl hU _).trans g0)
    have i0 : (0 : Int) ≤ (i : Int) := Int.natCast_nonneg _
    have i1 : (i : Int) < (n : Int) := by omega
    have HLT := Lib.hid hlt
    have l9 : (nL : Int) ≤ 9223372036854775807 := by have := HLL.out; have := HNL.out; have := HLT.out; omega
    clear hb hlt hm g0 hs hnL
    go_wp2_with fail
    go_loopw [6, 7] (fun hv kv wi => ∃ k : Nat, k ≤ nL ∧ kv = .int .i64 k ∧ hv = .bool ((L.take k).any (fun t => t == s)) ∧ Below wr.heap.size wr wi) (fun _ kv _ => nL - (intOf kv).toNat)
    case atStart => exact ⟨0, Nat.zero_le _, rfl, rfl, Below.refl _ _⟩
    case round =>
      obtain ⟨k, hk, rfl, rfl, hbi⟩ := hrel
      have HBI := Lib.hid hbi
      have HB2 := Lib.hid (bthen HB.out hbi)
      have HO2 := Lib.hid (ownsN_quiet HO.out hbi)
      have c0 := HC0.out _ HB2.out
      by_cases hlk : k < nL
      case neg =>
        have hd2 : decide ((k : Int) < (nL : Int)) = false := by simp; omega
        have HTK := Lib.hid (show L.take k = L from List.take_of_length_le (by have := HNL.out; omega))
        rw [HTK.out]
        clear hbi
        cases hq : L.any (fun t => t == s) with
        | true =>
          have HV := Lib.hid (show namesU (xs.take (i + 1)) = L by rw [HNX1.out, if_pos hq])
          clear hq
          go_wp2_with fail
          go_roundw
          case rel => exact ⟨i + 1, HLT.out, by go_num, by rw [HV.out]; exact HO2.out, HB2.out⟩
          case measure => have := HLT.out; simp [intOf]; omega
        | false =>
          have HV := Lib.hid (show namesU (xs.take (i + 1)) = L ++ [s] by rw [HNX1.out, if_neg (by rw [hq]; simp)])
          clear hq
          go_wp2_with (at_builtin; go_loud (refine wpList_append_str (u := wr) rfl _ _ rfl w1 _ _ s _ rfl rfl rfl rfl HO2.out (by have := HLL.out; have := HT.out; have := HLT.out; omega) HB2.out ?_; intro v' w2 ho2 hb2; have HO3 := Lib.hid ho2; have HB3 := Lib.hid hb2; clear ho2 hb2))
          go_roundw
          case rel => exact ⟨i + 1, HLT.out, by go_num, by rw [HV.out]; exact HO3.out, HB3.out⟩
          case measure => have := HLT.out; simp [intOf]; omega
      have hkL : k < L.length := by have := HNL.out; omega
      obtain ⟨b2, off2, hA2, hbl2, g1⟩ := RowOf.at_ (OwnsN.strs HO2.out) hkL
      subst hA2
      have HTK := Lib.hid (show (L.take (k + 1)).any (fun t => t == s) = ((L.take k).any (fun t => t == s) || (L[k] == s)) by rw [List.take_succ_eq_append_getElem hkL, List.any_append]; simp)
      obtain ⟨t, ht⟩ : ∃ t, L[k] = t := ⟨_, rfl⟩
      rw [ht] at g1 HTK
      rw [Nat.mul_one] at g1
      have j0 : (0 : Int) ≤ (k : Int) := Int.natCast_nonneg _
      have j1 : (k : Int) < (nL : Int) := by omega
      have HLK := Lib.hid hlk
      clear ht hlk hkL hbi hbl2
      obtain ⟨hd, hhd⟩ : ∃ b, (L.take k).any (fun t => t == s) = b := ⟨_, rfl⟩
      rw [hhd] at HTK ⊢
      clear hhd
      cases hd with
      | true =>
        have HV := Lib.hid (show (L.take (k + 1)).any (fun t => t == s) = true by rw [HTK.out]; rfl)
        go_wp2_with fail
        go_quiet (fail)
        have HBQ := Lib.hid (bthen HBI.out (drewN_below' wr nq))
        go_wp2_with fail
        go_roundw
        case rel => exact ⟨k + 1, HLK.out, by go_num, by rw [HV.out], HBQ.out⟩
        case measure => have := HLK.out; simp [intOf]; omega
      | false =>
        by_cases e : t = s
        · subst e
          have hst : (t.toList == t.toList) = true := by simp
          have HV := Lib.hid (show (L.take (k + 1)).any (fun x => x == t) = true by rw [HTK.out, (jba_beq t t).2 rfl]; rfl)
          go_wp2_with fail
          go_quiet (fail)
          have HBQ := Lib.hid (bthen HBI.out (drewN_below' wr nq))
          go_wp2_with fail
          go_roundw
          case rel => exact ⟨k + 1, HLK.out, by go_num, by rw [HV.out], HBQ.out⟩
          case measure => have := HLK.out; simp [intOf]; omega
        · obtain ⟨hs1, hs2⟩ := str_otherD e
          have HV := Lib.hid (show (L.take (k + 1)).any (fun x => x == s) = false by rw [HTK.out, hs1]; rfl)
          go_wp2_with fail
          go_quiet (fail)
          have HBQ := Lib.hid (bthen HBI.out (drewN_below' wr nq))
          go_wp2_with fail
          go_roundw
          case rel => exact ⟨k + 1, HLK.out, by go_num, by rw [HV.out], HBQ.out⟩
          case measure => have := HLK.out; simp [intOf]; omega
end Go.Proofs.Ytniolkjeblocaaa

namespace Go.Proofs.Ytniolkjeblocaaa
open Go.RowKit

/-- the module of the first that is so, or d -/
def fstO (p : Ri → Bool) (d : Int) (xs : List Ri) : Int := match xs.find? p with
  | some z => z.o
  | none => d
theorem fstO_some {p : Ri → Bool} {d : Int} {xs : List Ri} {z : Ri} (h : xs.find? p = some z) : fstO p d xs = z.o := by unfold fstO; rw [h]
theorem fstO_no {p : Ri → Bool} {d : Int} {xs : List Ri} (h : xs.any p = false) : fstO p d xs = d := by
  unfold fstO
  rw [List.find?_eq_none.2 (fun x hx => by simpa using List.any_eq_false.1 h x hx)]
theorem fstO_snoc_old {p : Ri → Bool} {d : Int} {xs : List Ri} {x : Ri} (h : xs.any p = true) : fstO p d (xs ++ [x]) = fstO p d xs := by
  unfold fstO
  rw [List.find?_append]
  obtain ⟨y, hy, e⟩ := List.any_eq_true.1 h
  cases hf : xs.find? p with
  | none => exact absurd e (by simpa using List.find?_eq_none.1 hf y hy)
  | some z => rfl
theorem fstO_snoc_new {p : Ri → Bool} {d : Int} {xs : List Ri} {x : Ri} (h : xs.any p = false) (hx : p x = true) : fstO p d (xs ++ [x]) = x.o := by
  unfold fstO
  rw [List.find?_append, List.find?_eq_none.2 (fun y hy => by simpa using List.any_eq_false.1 h y hy)]
  simp [hx]
theorem findI_at (p : Ri → Bool) (xs : List Ri) : xs.find? p = xs[xs.findIdx p]? := by
  induction xs with
  | nil => rfl
  | cons x xs ih =>
    rw [List.find?_cons, List.findIdx_cons]
    cases p x <;> simp [ih]
theorem pick_fst {xs : List Ri} {y : Ri} (hy : xs[0]? = some y) : (xs[pickI xs]?.map (·.o)).getD 0 = if xs.any seB = true then fstO seB 0 xs else fstO dfB y.o xs := by
  unfold pickI
  cases hs : xs.any seB with
  | true =>
    simp only [if_true]
    rw [← findI_at]
    unfold fstO
    cases xs.find? seB <;> rfl
  | false =>
    simp only [Bool.false_eq_true, if_false]
    cases hd : xs.any dfB with
    | true =>
      simp only [if_true]
      rw [← findI_at]
      unfold fstO
      obtain ⟨z, hz, e⟩ := List.any_eq_true.1 hd
      cases hf : xs.find? dfB with
      | none => exact absurd e (List.find?_eq_none.1 hf z hz)
      | some z => rfl
    | false =>
      simp only [Bool.false_eq_true, if_false]
      rw [hy, fstO_no hd]
      rfl
theorem seB_eq (x : Ri) : seB x = (x.h && stB x) := rfl
set_option maxRecDepth 100000 in
set_option maxHeartbeats 8000000 in
theorem refDef_any (y : Ri) (xs : List Ri) (A : Option Addr) (n c : Nat) (w : World) (hn : xs.length = n) (h9 : n ≤ 9223372036854775807) (hx : xs[0]? = some y) (hS : Rfs w (.slice A n c) xs) :
    Calls Try.prog 52 #[.slice A n c] w fun e w' => e = .returned (.agg (dfC (defG ⟨y.s, xs⟩)).toArray) ∧ Below w.heap.size w w' := by
  have hl : 0 < xs.length := (List.getElem?_eq_some_iff.1 hx).1
  have hx0 : xs[0] = y := (List.getElem?_eq_some_iff.1 hx).2
  obtain ⟨b0, off0, hA, hbl, g⟩ := RowOf.at_ hS hl
  rw [hx0, Nat.zero_mul, Nat.add_zero] at g
  subst hA
  obtain ⟨g0, g1, g2, -⟩ := g
  have HQ := Lib.hid (fun (U : World) (hU : Below w.heap.size w U) => (show U.cell? ⟨b0, off0, none⟩ = some (.string y.s) ∧ U.cell? ⟨b0, off0 + 1, none⟩ = some (.int .i64 y.o) ∧ U.cell? ⟨b0, off0 + 2, none⟩ = some (.bool y.f) from ⟨(cellNext hbl hU _).trans g0, (cellNext hbl hU _).trans g1, (cellNext hbl hU _).trans g2⟩))
  have HS := Lib.hid hS
  have HN := Lib.hid (show xs.length ≤ n ∧ n ≤ xs.length by omega)
  have n0 : (0 : Int) < (n : Int) := by omega
  have n00 : 0 < n := by omega
  have n9 : (n : Int) ≤ 9223372036854775807 := by omega
  have HPF := Lib.hid (pick_fst hx)
  have HDG := Lib.hid (show dfC (defG ⟨y.s, xs⟩) = [.string y.s, .int .i64 (if xs.any seB = true then fstO seB 0 xs else fstO dfB y.o xs), .bool y.f, .bool (!xs.any seB), .bool (xs.any dfB)] by unfold dfC defG; rw [← HPF.out]; dsimp only; rw [hx]; rfl)
  clear hx hx0 hl hS g0 g1 g2 hbl hn h9
  obtain ⟨W1, hW1⟩ : ∃ W1, W1 = w.alloc (.cells #[.string ⟨#[]⟩, .int .i64 0, .bool false, .bool false, .bool false] 49) := ⟨_, rfl⟩
  have HBW := Lib.hid (show Below w.heap.size w W1 from hW1 ▸ balloc (Below.refl _ w) _)
  have HR := Lib.hid (show W1.heap[w.heap.size]? = some (.cells #[.string ⟨#[]⟩, .int .i64 0, .bool false, .bool false, .bool false] 49 (0, 0)) by rw [hW1]; exact heap_alloc_new w _)
  have HZ1 := Lib.hid (show W1.heap.size = w.heap.size + 1 by rw [hW1]; simp)
  go_enter Try.func52, Try.ntmps52
  go_upto_region 1 with fail
  rw [← hW1]
  clear hW1
  have HB1 := Lib.hid (bthen HBW.out (Below.refl _ W1).drew)
  have hd := HQ.out _ HB1.out
  refine wp_region_held_drew (S := (fun U => U.cell? ⟨b0, off0, none⟩ = some (.string y.s) ∧ U.cell? ⟨b0, off0 + 1, none⟩ = some (.int .i64 y.o) ∧ U.cell? ⟨b0, off0 + 2, none⟩ = some (.bool y.f))) (by kernel_rfl) hd (fun hHeld => ?_)
  have HR1 := Lib.hid (show W1.drew.heap[w.heap.size]? = some (.cells #[.string ⟨#[]⟩, .int .i64 0, .bool false, .bool false, .bool false] 49 (0, 0)) from HR.out)
  have HZ := Lib.hid (show W1.drew.heap.size = w.heap.size + 1 from HZ1.out)
  clear HR HZ1 HBW
  generalize W1.drew = U1 at *
  refine wpAnyH_take (i := 0) (v := ?_) rfl (by kernel_rfl) (by kernel_rfl) (by kernel_rfl) (fun _ _ _ h => h) (Or.inl ⟨by rfl, ?_⟩) hHeld ?_
  rotate_left
  · intro W' hSw; (try dsimp only at hSw); go_simp; try (with_reducible rfl)
  (try simp only [Act.put, List.getElem_toArray, List.getElem_cons_zero, List.setIfInBounds_toArray, List.set_cons_zero, List.set_cons_succ])
  refine wpAnyH_take (i := 1) (v := ?_) rfl (by kernel_rfl) (by kernel_rfl) (by kernel_rfl) (fun _ _ _ h => h) (Or.inl ⟨by rfl, ?_⟩) hHeld ?_
  rotate_left
  · intro W' hSw; (try dsimp only at hSw); go_simp; try (with_reducible rfl)
  (try simp only [Act.put, List.getElem_toArray, List.getElem_cons_zero, List.getElem_cons_succ, List.setIfInBounds_toArray, List.set_cons_zero, List.set_cons_succ])
  refine wpAnyH_take (i := 2) (v := ?_) rfl (by kernel_rfl) (by kernel_rfl) (by kernel_rfl) (fun _ _ _ h => h) (Or.inl ⟨by rfl, ?_⟩) hHeld ?_
  rotate_left
  · intro W' hSw; (try dsimp only at hSw); go_simp; try (with_reducible rfl)
  (try simp only [Act.put, List.getElem_toArray, List.getElem_cons_zero, List.getElem_cons_succ, List.setIfInBounds_toArray, List.set_cons_zero, List.set_cons_succ])
  refine wpAnyH_take (i := 3) (v := ?_) rfl (by kernel_rfl) (by kernel_rfl) (by kernel_rfl) (fun _ _ _ h => h) (Or.inl ⟨by rfl, ?_⟩) hHeld ?_
  rotate_left
  · intro W' hSw; (try dsimp only at hSw); go_simp; try (with_reducible rfl)
  (try simp only [Act.put, List.getElem_toArray, List.getElem_cons_zero, List.getElem_cons_succ, List.setIfInBounds_toArray, List.set_cons_zero, List.set_cons_succ])
  refine wpAnyH_take (i := 4) (v := ?_) rfl (by kernel_rfl) (by kernel_rfl) (by kernel_rfl) (fun _ _ _ h => h) (Or.inl ⟨by rfl, ?_⟩) hHeld ?_
  rotate_left
  · intro W' hSw; (try dsimp only at hSw); go_simp; try (with_reducible rfl)
  (try simp only [Act.put, List.getElem_toArray, List.getElem_cons_zero, List.getElem_cons_succ, List.setIfInBounds_toArray, List.set_cons_zero, List.set_cons_succ])
  refine wpAnyH_take (i := 5) (v := ?_) rfl (by kernel_rfl) (by kernel_rfl) (by kernel_rfl) (fun _ _ _ h => h) (Or.inl ⟨by rfl, ?_⟩) hHeld ?_
  rotate_left
  · intro W' hSw; (try dsimp only at hSw); go_simp; try (with_reducible rfl)
  (try simp only [Act.put, List.getElem_toArray, List.getElem_cons_zero, List.getElem_cons_succ, List.setIfInBounds_toArray, List.set_cons_zero, List.set_cons_succ])
  refine wpAnyH_take (i := 6) (v := ?_) rfl (by kernel_rfl) (by kernel_rfl) (by kernel_rfl) (fun _ _ _ h => h) (Or.inl ⟨by rfl, ?_⟩) hHeld ?_
  rotate_left
  · intro W' hSw; (try dsimp only at hSw); go_simp; try (with_reducible rfl)
  (try simp only [Act.put, List.getElem_toArray, List.getElem_cons_zero, List.getElem_cons_succ, List.setIfInBounds_toArray, List.set_cons_zero, List.set_cons_succ])
  refine wpAnyH_take (i := 7) (v := ?_) rfl (by kernel_rfl) (by kernel_rfl) (by kernel_rfl) (fun _ _ _ h => h) (Or.inl ⟨by rfl, ?_⟩) hHeld ?_
  rotate_left
  · intro W' hSw; (try dsimp only at hSw); go_simp; try (with_reducible rfl)
  (try simp only [Act.put, List.getElem_toArray, List.getElem_cons_zero, List.getElem_cons_succ, List.setIfInBounds_toArray, List.set_cons_zero, List.set_cons_succ])
  refine wpAnyH_take (i := 8) (v := ?_) rfl (by kernel_rfl) (by kernel_rfl) (by kernel_rfl) (fun _ _ _ h => h) (Or.inl ⟨by rfl, ?_⟩) hHeld ?_
  rotate_left
  · intro W' hSw; (try dsimp only at hSw); go_simp; try (with_reducible rfl)
  (try simp only [Act.put, List.getElem_toArray, List.getElem_cons_zero, List.getElem_cons_succ, List.setIfInBounds_toArray, List.set_cons_zero, List.set_cons_succ])
  refine wpAnyH_take (i := 9) (v := ?_) rfl (by kernel_rfl) (by kernel_rfl) (by kernel_rfl) (fun _ _ _ h => h) (Or.inl ⟨by rfl, ?_⟩) hHeld ?_
  rotate_left
  · intro W' hSw; (try dsimp only at hSw); go_simp; try (with_reducible rfl)
  (try simp only [Act.put, List.getElem_toArray, List.getElem_cons_zero, List.getElem_cons_succ, List.setIfInBounds_toArray, List.set_cons_zero, List.set_cons_succ])
  refine wpAnyH_take (i := 10) (v := ?_) rfl (by kernel_rfl) (by kernel_rfl) (by kernel_rfl) (fun _ _ _ h => h) (Or.inl ⟨by rfl, ?_⟩) hHeld ?_
  rotate_left
  · intro W' hSw; (try dsimp only at hSw); go_simp; try (with_reducible rfl)
  (try simp only [Act.put, List.getElem_toArray, List.getElem_cons_zero, List.getElem_cons_succ, List.setIfInBounds_toArray, List.set_cons_zero, List.set_cons_succ])
  refine wpAnyH_take (i := 11) (v := ?_) rfl (by kernel_rfl) (by kernel_rfl) (by kernel_rfl) (fun _ _ _ h => h) (Or.inl ⟨by rfl, ?_⟩) hHeld ?_
  rotate_left
  · intro W' hSw; (try dsimp only at hSw); go_simp; try (with_reducible rfl)
  (try simp only [Act.put, List.getElem_toArray, List.getElem_cons_zero, List.getElem_cons_succ, List.setIfInBounds_toArray, List.set_cons_zero, List.set_cons_succ])
  refine wpAnyH_take (i := 12) (v := ?_) rfl (by kernel_rfl) (by kernel_rfl) (by kernel_rfl) (fun _ _ _ h => h) (Or.inl ⟨by rfl, ?_⟩) hHeld ?_
  rotate_left
  · intro W' hSw; (try dsimp only at hSw); go_simp; try (with_reducible rfl)
  (try simp only [Act.put, List.getElem_toArray, List.getElem_cons_zero, List.getElem_cons_succ, List.setIfInBounds_toArray, List.set_cons_zero, List.set_cons_succ])
  refine wpAnyH_ready (rs := [13]) (by kernel_rfl) (by simp) ?_
  refine AllReadyH.cons rfl (fun K hK => ?_) AllReadyH.nil
  go_simp
  have hz := heap_alloc_new U1 (.cells #[.string ⟨#[]⟩, .int .i64 0, .bool false, .bool false, .bool false] 49)
  have hub := balloc (Below.refl _ U1) (.cells #[.string ⟨#[]⟩, .int .i64 0, .bool false, .bool false, .bool false] 49)
  refine hK.out _ _ (HQ.out _ (bthen HB1.out hub)) (fun hHeld => ?_)
  clear hK
  (try simp only [Act.put, List.getElem_toArray, List.getElem_cons_zero, List.getElem_cons_succ, List.setIfInBounds_toArray, List.set_cons_zero, List.set_cons_succ])
  refine wpAnyH_ready (rs := [14]) (by kernel_rfl) (by simp) ?_
  refine AllReadyH.cons rfl (fun K hK => ?_) AllReadyH.nil
  refine step_store_rowR rfl _ _ _ rfl U1.heap.size #[.string y.s, .int .i64 y.o, .bool y.f, .bool true, .bool false] (by rfl) (by rfl) _ _ hz def_info rfl (by simp [Value.oneCell']) ?_
  refine hK.out _ _ (HQ.out _ (bthen HB1.out (below_setRowp hub (Nat.le_refl _)))) (fun hHeld => ?_)
  clear hK
  (try simp only [Act.put, List.getElem_toArray, List.getElem_cons_zero, List.getElem_cons_succ])
  refine wpAnyH_done (by kernel_rfl) ?_ _
  have HD0 := Lib.hid (setRow_heap (U1.alloc (.cells #[.string ⟨#[]⟩, .int .i64 0, .bool false, .bool false, .bool false] 49)) U1.heap.size #[.string ⟨#[]⟩, .int .i64 0, .bool false, .bool false, .bool false] #[.string y.s, .int .i64 y.o, .bool y.f, .bool true, .bool false] _ _ hz)
  have HRX := Lib.hid (show ((U1.alloc (.cells #[.string ⟨#[]⟩, .int .i64 0, .bool false, .bool false, .bool false] 49)).setRow U1.heap.size #[.string y.s, .int .i64 y.o, .bool y.f, .bool true, .bool false]).heap[w.heap.size]? = some (.cells #[.string ⟨#[]⟩, .int .i64 0, .bool false, .bool false, .bool false] 49 (0, 0)) from (setRow_other _ _ _ _ (by have := HZ.out; omega)).trans ((Lib.alloc_old _ _ _ (by have := HZ.out; omega)).trans HR1.out))
  have HBX := Lib.hid (bthen HB1.out (below_setRowp hub (Nat.le_refl _) (cells := #[.string y.s, .int .i64 y.o, .bool y.f, .bool true, .bool false])))
  have HDR := Lib.hid (show U1.heap.size = w.heap.size + 1 from HZ.out)
  clear hz hub hHeld hd HR1 HZ HB1
  generalize (U1.alloc (.cells #[.string ⟨#[]⟩, .int .i64 0, .bool false, .bool false, .bool false] 49)).setRow U1.heap.size #[.string y.s, .int .i64 y.o, .bool y.f, .bool true, .bool false] = W2 at *
  generalize U1.heap.size = DD at *
  have HDW := Lib.hid (show w.heap.size + 1 ≤ DD ∧ DD ≤ w.heap.size + 1 by have := HDR.out; omega)
  clear HDR
  go_wp2_with fail
  go_loopw [4] (fun iv wr => ∃ i : Nat, i ≤ n ∧ iv = .int .i64 i ∧ wr.heap[DD]? = some (.cells #[.string y.s, .int .i64 (fstO dfB y.o (xs.take i)), .bool y.f, .bool true, .bool ((xs.take i).any dfB)] 49 (0, 0)) ∧ wr.heap[w.heap.size]? = some (.cells #[.string ⟨#[]⟩, .int .i64 0, .bool false, .bool false, .bool false] 49 (0, 0)) ∧ Below w.heap.size w wr) (fun iv _ => n - (intOf iv).toNat)
  case atStart => exact ⟨0, Nat.zero_le _, rfl, HD0.out, HRX.out, HBX.out⟩
  case round =>
    obtain ⟨i, hi, rfl, hd, hr, hb⟩ := hrel
    obtain ⟨M, hM⟩ : ∃ M, fstO dfB y.o (xs.take i) = M := ⟨_, rfl⟩
    obtain ⟨H, hH⟩ : ∃ H, (xs.take i).any dfB = H := ⟨_, rfl⟩
    rw [hM, hH] at hd
    have HD := Lib.hid hd
    have HRR := Lib.hid hr
    have HB := Lib.hid hb
    have HMM := Lib.hid (And.intro hM hH)
    by_cases hlt : i < n
    case neg =>
      have hdd : decide ((i : Int) < (n : Int)) = false := by simp; omega
      have HD2 := Lib.hid (show wr.heap[DD]? = some (.cells #[.string y.s, .int .i64 (fstO dfB y.o xs), .bool y.f, .bool true, .bool (xs.any dfB)] 49 (0, 0)) by rw [hd, ← hM, ← hH, List.take_of_length_le (by have := HN.out; omega)])
      clear hd hr hM hH HMM HD hb
      obtain ⟨M1, hM1⟩ : ∃ M, fstO dfB y.o xs = M := ⟨_, rfl⟩
      obtain ⟨H1, hH1⟩ : ∃ H, xs.any dfB = H := ⟨_, rfl⟩
      rw [hM1, hH1] at HD2 HDG
      clear hM1 hH1
      go_wp2_with fail
      go_loopw [5] (fun iv wi => ∃ i : Nat, i ≤ n ∧ iv = .int .i64 i ∧ wi.heap[DD]? = some (.cells #[.string y.s, .int .i64 M1, .bool y.f, .bool true, .bool H1] 49 (0, 0)) ∧ (xs.take i).any seB = false ∧ wi.heap[w.heap.size]? = some (.cells #[.string ⟨#[]⟩, .int .i64 0, .bool false, .bool false, .bool false] 49 (0, 0)) ∧ Below w.heap.size w wi) (fun iv _ => n - (intOf iv).toNat)
      case atStart => exact ⟨0, Nat.zero_le _, rfl, HD2.out, rfl, HRR.out, HB.out⟩
      case round =>
        obtain ⟨i, hi, rfl, hd, hse, hr, hb⟩ := hrel
        have HD := Lib.hid hd
        have HSE := Lib.hid hse
        have HR := Lib.hid hr
        have HBI := Lib.hid hb
        have q0 := Lib.cell_of_heap hd 0
        have q1 := Lib.cell_of_heap hd 1
        have q2 := Lib.cell_of_heap hd 2
        have q3 := Lib.cell_of_heap hd 3
        have q4 := Lib.cell_of_heap hd 4
        simp only [List.getElem?_toArray, List.getElem?_cons_zero, List.getElem?_cons_succ] at q0 q1 q2 q3 q4
        by_cases hlt : i < n
        case neg =>
          have hdd : decide ((i : Int) < (n : Int)) = false := by simp; omega
          have HDF := Lib.hid (show dfC (defG ⟨y.s, xs⟩) = [.string y.s, .int .i64 M1, .bool y.f, .bool true, .bool H1] by
            have h := HSE.out
            rw [List.take_of_length_le (by have := HN.out; omega)] at h
            rw [HDG.out, h]
            rfl)
          have HFR := Lib.hid (setRow_heap wr w.heap.size #[.string ⟨#[]⟩, .int .i64 0, .bool false, .bool false, .bool false] #[.string y.s, .int .i64 M1, .bool y.f, .bool true, .bool H1] _ _ hr)
          clear hd hr hb hse
          go_wp2_with (refine wpList_store_row rfl _ _ _ rfl w.heap.size #[.string y.s, .int .i64 M1, .bool y.f, .bool true, .bool H1] rfl rfl _ _ HR.out def_info rfl (by simp [Value.oneCell']) ?_)
          exact bodyPost_ret (results_cell_row Try.results52 _ _ _ _ #[.string y.s, .int .i64 M1, .bool y.f, .bool true, .bool H1] _ _ rfl HFR.out Try.underlying49 rfl def_info) rfl ⟨by rw [HDF.out], below_setRowp HBI.out (Nat.le_refl _)⟩
        have hm : i < xs.length := by have := HN.out; omega
        obtain ⟨b1, off, hA, hbl, -, g1, -, -, g4, g5⟩ := RowOf.at_ (HS.out.next hb) hm
        have eA := Option.some.inj hA
        simp only [Addr.mk.injEq, and_true] at eA
        obtain ⟨eb, eo⟩ := eA
        subst eb eo
        have HFA := Lib.hid (show (xs.take (i + 1)).any seB = seB xs[i] by rw [List.take_succ_eq_append_getElem hm, List.any_append, HSE.out]; simp)
        have HFS := Lib.hid (show seB xs[i] = true → xs.any seB = true ∧ fstO seB 0 xs = xs[i].o from fun h => by
          have e : xs = xs.take i ++ xs[i] :: xs.drop (i + 1) := by rw [← List.drop_eq_getElem_cons hm, List.take_append_drop]
          refine ⟨List.any_eq_true.2 ⟨_, List.getElem_mem hm, h⟩, ?_⟩
          apply fstO_some
          conv => lhs; rw [e]
          rw [List.find?_append, List.find?_eq_none.2 (fun z hz => by simpa using List.any_eq_false.1 HSE.out z hz), List.find?_cons, h]
          rfl)
        rw [seB_eq] at HFA HFS
        obtain ⟨xo, hxo⟩ : ∃ o, xs[i].o = o := ⟨_, rfl⟩
        obtain ⟨xh, hxh⟩ : ∃ o, xs[i].h = o := ⟨_, rfl⟩
        obtain ⟨xt, hxt⟩ : ∃ o, stB xs[i] = o := ⟨_, rfl⟩
        rw [hxo] at g1 HFS
        rw [hxh] at g4 HFS HFA
        rw [hxt] at g5 HFS HFA
        have i0 : (0 : Int) ≤ (i : Int) := Int.natCast_nonneg _
        have i1 : (i : Int) < (n : Int) := by omega
        have HLT := Lib.hid hlt
        clear hxo hxh hxt hm hlt hb hbl hse
        cases xh with
        | false =>
          have HV := Lib.hid (show (xs.take (i + 1)).any seB = false by rw [HFA.out]; rfl)
          clear hd hr
          go_wp2_with fail
          go_roundw
          case rel => exact ⟨i + 1, HLT.out, by go_num, HD.out, HV.out, HR.out, HBI.out⟩
          case measure => have := HLT.out; simp [intOf]; omega
        | true =>
          cases xt with
          | false =>
            have HV := Lib.hid (show (xs.take (i + 1)).any seB = false by rw [HFA.out]; rfl)
            clear hd hr
            go_wp2_with fail
            go_roundw
            case rel => exact ⟨i + 1, HLT.out, by go_num, HD.out, HV.out, HR.out, HBI.out⟩
            case measure => have := HLT.out; simp [intOf]; omega
          | true =>
            obtain ⟨hy1, hy2⟩ := HFS.out rfl
            have HDF := Lib.hid (show dfC (defG ⟨y.s, xs⟩) = [.string y.s, .int .i64 xo, .bool y.f, .bool false, .bool H1] by rw [HDG.out, hy1, if_pos rfl, hy2]; rfl)
            have z1 := Lib.frozen_of_heap hd 1
            have hd1 := heap_setCell_same wr DD 1 _ _ (.int .i64 xo) hd
            have p0 := Lib.cell_of_heap hd1 0
            have p3 := Lib.cell_of_heap hd1 3
            have z3 := Lib.frozen_of_heap hd1 3
            have hd2 := heap_setCell_same (wr.setCell ⟨DD, 1, none⟩ (.int .i64 xo)) DD 3 _ _ (.bool false) hd1
            have r0 := Lib.cell_of_heap hd2 0
            have r1 := Lib.cell_of_heap hd2 1
            have r2 := Lib.cell_of_heap hd2 2
            have r3 := Lib.cell_of_heap hd2 3
            have r4 := Lib.cell_of_heap hd2 4
            have hrw : ((wr.setCell ⟨DD, 1, none⟩ (.int .i64 xo)).setCell ⟨DD, 3, none⟩ (.bool false)).heap[w.heap.size]? = some (.cells #[.string ⟨#[]⟩, .int .i64 0, .bool false, .bool false, .bool false] 49 (0, 0)) := (Below.heap_setCell _ _ _ _ (by show w.heap.size ≠ DD; have := HDW.out; omega)).trans ((Below.heap_setCell _ _ _ _ (by show w.heap.size ≠ DD; have := HDW.out; omega)).trans hr)
            have HRW := Lib.hid hrw
            have HFR := Lib.hid (setRow_heap ((wr.setCell ⟨DD, 1, none⟩ (.int .i64 xo)).setCell ⟨DD, 3, none⟩ (.bool false)) w.heap.size #[.string ⟨#[]⟩, .int .i64 0, .bool false, .bool false, .bool false] #[.string y.s, .int .i64 xo, .bool y.f, .bool false, .bool H1] _ _ hrw)
            have HFB := Lib.hid (below_setRowp (below_setc (below_setc (a := ⟨DD, 1, none⟩) (u := .int .i64 xo) HBI.out (show w.heap.size ≤ DD by have := HDW.out; omega)) (show w.heap.size ≤ DD by have := HDW.out; omega)) (Nat.le_refl _) : Below w.heap.size w (((wr.setCell ⟨DD, 1, none⟩ (.int .i64 xo)).setCell ⟨DD, 3, none⟩ (.bool false)).setRow w.heap.size #[.string y.s, .int .i64 xo, .bool y.f, .bool false, .bool H1]))
            simp only [List.setIfInBounds_toArray, List.set_cons_zero, List.set_cons_succ, List.getElem?_toArray, List.getElem?_cons_zero, List.getElem?_cons_succ] at p0 p3 r0 r1 r2 r3 r4
            clear hd hr hd1 hd2 hrw hy1 hy2 HFS HFA
            go_wp2_with (refine wpList_store_row rfl _ _ _ rfl w.heap.size #[.string y.s, .int .i64 xo, .bool y.f, .bool false, .bool H1] rfl rfl _ _ HRW.out def_info rfl (by simp [Value.oneCell']) ?_)
            exact bodyPost_ret (results_cell_row Try.results52 _ _ _ _ #[.string y.s, .int .i64 xo, .bool y.f, .bool false, .bool H1] _ _ rfl HFR.out Try.underlying49 rfl def_info) rfl ⟨by rw [HDF.out], HFB.out⟩
    have hm : i < xs.length := by have := HN.out; omega
    obtain ⟨b1, off, hA, hbl, -, g1, -, -, g4, -⟩ := RowOf.at_ (HS.out.next hb) hm
    have eA := Option.some.inj hA
    simp only [Addr.mk.injEq, and_true] at eA
    obtain ⟨eb, eo⟩ := eA
    subst eb eo
    have q4 := Lib.cell_of_heap hd 4
    simp only [List.getElem?_toArray, List.getElem?_cons_zero, List.getElem?_cons_succ] at q4
    have HTK := Lib.hid (show xs.take (i + 1) = xs.take i ++ [xs[i]] from List.take_succ_eq_append_getElem hm)
    obtain ⟨x, hx⟩ : ∃ x, xs[i] = x := ⟨_, rfl⟩
    rw [hx] at g1 g4 HTK
    obtain ⟨xo, hxo⟩ : ∃ o, x.o = o := ⟨_, rfl⟩
    obtain ⟨xh, hxh⟩ : ∃ o, x.h = o := ⟨_, rfl⟩
    have HXX := Lib.hid (And.intro hxo (show dfB x = xh from hxh))
    rw [hxo] at g1
    rw [hxh] at g4
    have i0 : (0 : Int) ≤ (i : Int) := Int.natCast_nonneg _
    have i1 : (i : Int) < (n : Int) := by omega
    have HLT := Lib.hid hlt
    have HANY := Lib.hid (show (xs.take (i + 1)).any dfB = (H || xh) by rw [HTK.out, List.any_append, hH]; simp [HXX.out.2])
    clear hx hxo hxh hm hlt hb hbl hM hH
    cases xh with
    | false =>
      have HV := Lib.hid (show fstO dfB y.o (xs.take (i + 1)) = M ∧ (xs.take (i + 1)).any dfB = H by
        have h1 := HANY.out
        rw [Bool.or_false] at h1
        refine ⟨?_, h1⟩
        cases H with
        | true => rw [HTK.out, fstO_snoc_old HMM.out.2]; exact HMM.out.1
        | false => rw [fstO_no h1, ← HMM.out.1, fstO_no HMM.out.2])
      clear hd hr
      go_wp2_with fail
      go_roundw
      case rel => exact ⟨i + 1, HLT.out, by go_num, by rw [HV.out.1, HV.out.2]; exact HD.out, HRR.out, HB.out⟩
      case measure => have := HLT.out; simp [intOf]; omega
    | true =>
      cases H with
      | true =>
        have HV := Lib.hid (show fstO dfB y.o (xs.take (i + 1)) = M ∧ (xs.take (i + 1)).any dfB = true from ⟨by rw [HTK.out, fstO_snoc_old HMM.out.2]; exact HMM.out.1, HANY.out⟩)
        clear hd hr
        go_wp2_with fail
        go_roundw
        case rel => exact ⟨i + 1, HLT.out, by go_num, by rw [HV.out.1, HV.out.2]; exact HD.out, HRR.out, HB.out⟩
        case measure => have := HLT.out; simp [intOf]; omega
      | false =>
        have HV := Lib.hid (show fstO dfB y.o (xs.take (i + 1)) = xo ∧ (xs.take (i + 1)).any dfB = true from ⟨by rw [HTK.out, fstO_snoc_new HMM.out.2 HXX.out.2]; exact HXX.out.1, HANY.out⟩)
        have q1 := Lib.cell_of_heap hd 1
        have z1 := Lib.frozen_of_heap hd 1
        have hd1 := heap_setCell_same wr DD 1 _ _ (.int .i64 xo) hd
        have p4 := Lib.cell_of_heap hd1 4
        have z4 := Lib.frozen_of_heap hd1 4
        have HD2 := Lib.hid (heap_setCell_same (wr.setCell ⟨DD, 1, none⟩ (.int .i64 xo)) DD 4 _ _ (.bool true) hd1)
        have HRW := Lib.hid (show ((wr.setCell ⟨DD, 1, none⟩ (.int .i64 xo)).setCell ⟨DD, 4, none⟩ (.bool true)).heap[w.heap.size]? = some (.cells #[.string ⟨#[]⟩, .int .i64 0, .bool false, .bool false, .bool false] 49 (0, 0)) from (Below.heap_setCell _ _ _ _ (by show w.heap.size ≠ DD; have := HDW.out; omega)).trans ((Below.heap_setCell _ _ _ _ (by show w.heap.size ≠ DD; have := HDW.out; omega)).trans hr))
        have HFB := Lib.hid (below_setc (below_setc (a := ⟨DD, 1, none⟩) (u := .int .i64 xo) HB.out (show w.heap.size ≤ DD by have := HDW.out; omega)) (show w.heap.size ≤ DD by have := HDW.out; omega) : Below w.heap.size w ((wr.setCell ⟨DD, 1, none⟩ (.int .i64 xo)).setCell ⟨DD, 4, none⟩ (.bool true)))
        simp only [List.setIfInBounds_toArray, List.set_cons_zero, List.set_cons_succ, List.getElem?_toArray, List.getElem?_cons_zero, List.getElem?_cons_succ] at p4 q1
        clear hd hr hd1
        go_wp2_with fail
        go_roundw
        case rel => exact ⟨i + 1, HLT.out, by go_num, by rw [HV.out.1, HV.out.2]; exact HD2.out, HRW.out, HFB.out⟩
        case measure => have := HLT.out; simp [intOf]; omega
end Go.Proofs.Ytniolkjeblocaaa

namespace Go.Proofs.Ytniolkjeblocaaa
open Go.RowKit

theorem any_same {α : Type} {p q : α → Bool} : ∀ {l : List α}, (∀ x ∈ l, p x = q x) → l.any p = l.any q
  | [], _ => rfl
  | x :: l, h => by
    rw [List.any_cons, List.any_cons, h x (by simp), any_same (fun y hy => h y (by simp [hy]))]
theorem wrV_wrV (b1 b2 b3 c1 c2 c3 : Bool) {e : Int} (he : e = 0 ∨ e = 11 ∨ e = 8 ∨ e = 9 ∨ e = 10) : wrV c1 c2 c3 (wrV b1 b2 b3 e) = wrV (b1 || c1) (b2 || c2) (b3 || c3) e := by
  rcases he with rfl | rfl | rfl | rfl | rfl <;> cases b1 <;> cases b2 <;> cases b3 <;> cases c1 <;> cases c2 <;> cases c3 <;> rfl
theorem fold_wr (G : List Gp) : ∀ {e : Int}, (e = 0 ∨ e = 11 ∨ e = 8 ∨ e = 9 ∨ e = 10) → G.foldl (fun e g => wrE g.l e) e = wrV (G.any fun g => misB g.l) (G.any fun g => twoB g.l) (G.any fun g => mixB g.l) e := by
  induction G with
  | nil => intro e he; rcases he with rfl | rfl | rfl | rfl | rfl <;> rfl
  | cons g G ih =>
    intro e he
    rw [List.foldl_cons, ih (wrE_set he), List.any_cons, List.any_cons, List.any_cons]
    exact wrV_wrV _ _ _ _ _ _ he
/-- what the reference says of one name is c -/
def isW (c : Int) (g : Gp) : Bool := wrongR g.l == c
theorem isW_eq (c : Int) (g : Gp) : isW c g = (wrV (misB g.l) (twoB g.l) (mixB g.l) 0 == c) := by
  unfold isW
  rw [← wrE_ref]
  rfl
theorem isW_10 (g : Gp) : isW 10 g = mixB g.l := by
  rw [isW_eq]
  cases misB g.l <;> cases twoB g.l <;> cases mixB g.l <;> rfl
theorem isW_9 {g : Gp} (h : mixB g.l = false) : isW 9 g = twoB g.l := by
  rw [isW_eq, h]
  cases misB g.l <;> cases twoB g.l <;> rfl
theorem isW_8 {g : Gp} (h : mixB g.l = false) (h2 : twoB g.l = false) : isW 8 g = misB g.l := by
  rw [isW_eq, h, h2]
  cases misB g.l <;> rfl
theorem any_mix (G : List Gp) : G.any (isW 10) = G.any fun g => mixB g.l := any_same fun g _ => isW_10 g
theorem any_two {G : List Gp} (h : (G.any fun g => mixB g.l) = false) : G.any (isW 9) = G.any fun g => twoB g.l := any_same fun g hg => isW_9 (by simpa using List.any_eq_false.1 h g hg)
theorem any_mis {G : List Gp} (h : (G.any fun g => mixB g.l) = false) (h2 : (G.any fun g => twoB g.l) = false) : G.any (isW 8) = G.any fun g => misB g.l := any_same fun g hg => isW_8 (by simpa using List.any_eq_false.1 h g hg) (by simpa using List.any_eq_false.1 h2 g hg)
theorem entE_two (G : List Gp) : entE G = 0 ∨ entE G = 11 := by unfold entE; split <;> simp
theorem tblE_10 {G : List Gp} (h : G.any (isW 10) = true) : tblE G = 10 := by
  unfold tblE
  rw [fold_wr G (entE_set G), ← any_mix, h]
  rcases entE_two G with e | e <;> rw [e] <;> rfl
theorem tblE_9 {G : List Gp} (h : G.any (isW 10) = false) (h2 : G.any (isW 9) = true) : tblE G = 9 := by
  rw [any_mix] at h
  rw [any_two h] at h2
  unfold tblE
  rw [fold_wr G (entE_set G), h, h2]
  rcases entE_two G with e | e <;> rw [e] <;> rfl
theorem tblE_8 {G : List Gp} (h : G.any (isW 10) = false) (h2 : G.any (isW 9) = false) (h3 : G.any (isW 8) = true) : tblE G = 8 := by
  rw [any_mix] at h
  rw [any_two h] at h2
  rw [any_mis h h2] at h3
  unfold tblE
  rw [fold_wr G (entE_set G), h, h2, h3]
  rcases entE_two G with e | e <;> rw [e] <;> rfl
theorem tblE_ok {G : List Gp} (h : G.any (isW 10) = false) (h2 : G.any (isW 9) = false) (h3 : G.any (isW 8) = false) : tblE G = entE G := by
  rw [any_mix] at h
  rw [any_two h] at h2
  rw [any_mis h h2] at h3
  unfold tblE
  rw [fold_wr G (entE_set G), h, h2, h3]
  rcases entE_two G with e | e <;> rw [e] <;> rfl
/-- is it a main that a program begins with? -/
def ent1 (g : Gp) : Bool := g.s == mainS && (k0 g && g.l.any dfB)
theorem entB_eq (G : List Gp) : entB G = G.any ent1 := rfl
theorem wpList_append_def2 {W u : World} {ops : Array Oper} {rest : List Oper} {o : Oper} {a : Act} {Q : Exit → Act → World → Prop} (hgd : o.guard = none) (s x : Operand)
    (ho : o.op = .call { callee := .builtin .append, args := #[s, x], argTypes := #[41, 41] }) (w : World) (v : Value) (r : List Df) (m : Df) (H : Nat) (hs : a.eval s = v) (hx : a.eval x = .slice (some ⟨H, 0, none⟩) 1 1)
    (hH : u.heap.size = H) (hW : W = u.alloc (.cells (dfC m).toArray 49)) (hO : OutD w.heap.size v r u) (hn : (r.length + 1) * 32 ≤ 140737488355328) (hb : Below w.heap.size w u)
    (h : ∀ v' w', OutD w.heap.size v' (r ++ [m]) w' → Below w.heap.size w w' → W.grownBy w' v.ownBlock → wpList Try.prog ops Q rest (a.put o.dst v') w') : wpList Try.prog ops Q (o :: rest) a W := by
  have hbW : Below w.heap.size w W := by rw [hW]; exact bthen hb (balloc (Below.refl _ u) _)
  subst hH hW
  have ho1 : u.ownsRow w.heap.size 49 5 v r.length ((r.map dfC).flatten) := hO
  obtain ⟨i0, hi0, hz0, hz1, hz2⟩ := info_parts dfi_info
  have hnw := World.news_of_block (cs := (dfC m).toArray) (heap_alloc_new u (.cells (dfC m).toArray 49))
  refine wpList_append_own _ hgd s x 41 ho w.heap.size 49 i0 _ 5 32 Try.underlying41 hi0 hz0 hz1 hz2 rfl (by decide) v r.length _ hs (ho1.alloc _) ⟨u.heap.size, 0, none⟩ 1 1 (dfC m) hx rfl hnw (by simp [dfC, Value.oneCell']) (by unfold maxLen; omega) hn hbW.size (fun v' w' h1 h2 _ => h v' w' ?_ (hbW.grown h2 hbW.size (fun q hq => (ho1.lt q hq).1)) h2)
  unfold OutD
  rw [List.length_append, List.map_append, List.flatten_append]
  simpa using h1
theorem grp_at {xs : List Ri} {i : Nat} (h : i < (grp xs).length) (h2 : i < (namesU xs).length) : (grp xs)[i] = ⟨(namesU xs)[i], xs.filter fun x => x.s == (namesU xs)[i]⟩ := by
  simp only [grp_eq, List.getElem_map]
set_option maxRecDepth 100000 in
set_option maxHeartbeats 16000000 in
theorem refAll9_any (ms : List Md) (A : Option Addr) (na ca : Nat) (w : World) (hna : ms.length = na) (hn9 : na ≤ 9223372036854775807) (hok : ∀ m ∈ ms, MdOk m) (hT : ((allI ms ms.length).length + 1) * 56 ≤ 140737488355328) (hS : Mods w (.slice A na ca) ms) :
    Calls Try.prog 23 #[.slice A na ca] w fun e w' => ∃ v, e = .returned (.tuple #[v, .int .i64 (tblE (grp (allI ms ms.length)))]) ∧ Dfs w' v (allD (grp (allI ms ms.length)) (tblE (grp (allI ms ms.length)))) ∧ Below w.heap.size w w' := by
  have HI := Lib.hid (refItems_any ms A na ca w hna hn9 hok (by omega) hS)
  have HNM := Lib.hid (fun (U : World) (hU : Below w.heap.size w U) => refNames9_any ms A na ca U hna hn9 hok hT (hS.next hU))
  obtain ⟨xs, hxs⟩ : ∃ xs, allI ms ms.length = xs := ⟨_, rfl⟩
  rw [hxs] at HI HNM hT ⊢
  have HT := Lib.hid hT
  have HGX := Lib.hid (show ∀ i (hi : i < (grp xs).length) (h2 : i < (namesU xs).length), (grp xs)[i] = ⟨(namesU xs)[i], xs.filter fun x => x.s == (namesU xs)[i]⟩ from fun i hi h2 => grp_at hi h2)
  have HGL := Lib.hid (show (grp xs).length = (namesU xs).length by rw [grp_eq, List.length_map])
  have HGY := Lib.hid (show ∀ g ∈ grp xs, ∃ y, g.l[0]? = some y ∧ y.s = g.s from fun g hg => grp_some hg)
  have HLE := Lib.hid (grp_len xs)
  obtain ⟨G, hG⟩ : ∃ G, grp xs = G := ⟨_, rfl⟩
  rw [hG] at HGX HGL HGY HLE ⊢
  obtain ⟨E, hE⟩ : ∃ E, tblE G = E := ⟨_, rfl⟩
  have HEQ := Lib.hid (show tblE G = E from hE)
  rw [hE]
  clear hna hn9 hok hT hS hxs hG hE
  go_enter Try.func23, Try.ntmps23
  go_wp2_with fail
  refine HI.out.mono ?_
  rintro r w1 ⟨v1, rfl, hO, hb1⟩
  obtain ⟨A1, c1, hv1, hrf⟩ := hO.below2
  obtain ⟨n, hn⟩ : ∃ n, xs.length = n := ⟨_, rfl⟩
  rw [hn] at hv1 HT
  subst hv1
  have HB1 := Lib.hid hb1
  go_wp2_with fail
  refine (HNM.out _ hb1).mono ?_
  rintro r w2 ⟨v2, rfl, hst, hb2⟩
  obtain ⟨A2, c2, hv2⟩ := hst.slice
  obtain ⟨nn, hnn⟩ : ∃ n, (namesU xs).length = n := ⟨_, rfl⟩
  rw [hnn] at hv2
  subst hv2
  have HB2 := Lib.hid (bthen hb1 hb2)
  have HS := Lib.hid (hrf.next hb2)
  have HST := Lib.hid hst
  have HN := Lib.hid (show xs.length ≤ n ∧ n ≤ xs.length by omega)
  have HNN := Lib.hid (show (namesU xs).length ≤ nn ∧ nn ≤ (namesU xs).length by omega)
  have HGN := Lib.hid (show G.length ≤ nn ∧ nn ≤ G.length by have := HGL.out; omega)
  have n9 : (nn : Int) ≤ 9223372036854775807 := by have := HT.out; have := HLE.out; have := HGN.out; have := HN.out; omega
  have HOF := Lib.hid (fun (s : ByteArray) (U : World) (hU : Below w2.heap.size w2 U) => refOf_any s xs A1 n c1 U hn (by have := HT.out; omega) (HS.out.next hU))
  clear hO hrf hb1 hb2 hst hnn HI HNM hn
  go_wp2_with fail
  go_loopw [6] (fun ev wr => ∃ z : Int, 0 ≤ z ∧ z ≤ 3 ∧ ev = .int .i64 z ∧ (1 ≤ z → G.any (isW 10) = false) ∧ (2 ≤ z → G.any (isW 9) = false) ∧ (3 ≤ z → G.any (isW 8) = false) ∧ Below w2.heap.size w2 wr) (fun ev _ => 3 - (intOf ev).toNat)
  case atStart => exact ⟨0, by omega, by omega, rfl, fun h => absurd h (by omega), fun h => absurd h (by omega), fun h => absurd h (by omega), Below.refl _ _⟩
  case round =>
    obtain ⟨z, hz0, hz3, rfl, h10, h9, h8, hb⟩ := hrel
    have HB := Lib.hid hb
    have H10 := Lib.hid h10
    have H9 := Lib.hid h9
    have H8 := Lib.hid h8
    clear h10 h9 h8 hb
    have hz : z = 3 ∨ z = 0 ∨ z = 1 ∨ z = 2 := by omega
    clear hz0 hz3
    rcases hz with rfl | rfl | rfl | rfl
    · have HOK := Lib.hid (show E = entE G by rw [← HEQ.out]; exact tblE_ok (H10.out (by omega)) (H9.out (by omega)) (H8.out (by omega)))
      clear H10 H9 H8
      go_wp2_with fail
      go_loopw [9, 10, 11] (fun vv ev iv wr => ∃ i : Nat, i ≤ nn ∧ iv = .int .i64 i ∧ ev = .bool ((G.take i).any ent1) ∧ OutD w2.heap.size vv ((G.take i).map defG) wr ∧ Below w2.heap.size w2 wr) (fun _ _ iv _ => nn - (intOf iv).toNat)
      case atStart => exact ⟨0, Nat.zero_le _, rfl, rfl, World.ownsRow_nil _ _ _ _, HB.out⟩
      case round =>
        obtain ⟨i, hi, rfl, rfl, ho, hb⟩ := hrel
        have HO := Lib.hid ho
        have HBI := Lib.hid hb
        by_cases hlt : i < nn
        case neg =>
          have hd : decide ((i : Int) < (nn : Int)) = false := by simp; omega
          have HTA := Lib.hid (show G.take i = G from List.take_of_length_le (by have := HGN.out; omega))
          rw [HTA.out] at HO ⊢
          have HEE := Lib.hid (show E = if G.any ent1 = true then 0 else 11 from HOK.out)
          clear ho hb
          cases hq : G.any ent1 with
          | true =>
            rw [hq, if_pos rfl] at HEE
            have HDD := Lib.hid (show Dfs _ _ (allD G E) from by rw [HEE.out, allD_ok]; exact OutD.dfs HO.out)
            clear hq
            go_wp2_with fail
            go_ret2
            exact ⟨_, by rw [HEE.out]; rfl, HDD.out, bthen HB2.out HBI.out⟩
          | false =>
            rw [hq, if_neg (by simp)] at HEE
            have HAD := Lib.hid (show allD G E = [] from allD_no (by rw [HEE.out]; omega))
            clear hq
            go_wp2_with fail
            go_ret2
            exact ⟨_, by rw [HEE.out]; rfl, by rw [HAD.out]; exact .inl ⟨rfl, .inl rfl⟩, bthen HB2.out HBI.out⟩
        obtain ⟨A0, z0, hv0⟩ := ownsRow_slice ho
        obtain ⟨nL, hnL⟩ : ∃ n, ((G.take i).map defG).length = n := ⟨_, rfl⟩
        rw [hnL] at hv0
        subst hv0
        have HVB := Lib.hid (show ∀ q, (Value.slice A0 nL z0).ownBlock = some q → q < wr.heap.size from fun q hq => (World.ownsRow.lt ho q hq).2)
        have hm : i < (namesU xs).length := by have := HNN.out; omega
        have hgm : i < G.length := by have := HGN.out; omega
        obtain ⟨b2, off2, hA2, hbl2, g1⟩ := RowOf.at_ (HST.out.next hb) hm
        subst hA2
        rw [Nat.mul_one] at g1
        have HTD := Lib.hid (show (G.take (i + 1)).map defG = (G.take i).map defG ++ [defG G[i]] by rw [List.take_succ_eq_append_getElem hgm, List.map_append]; rfl)
        have HTE := Lib.hid (show (G.take (i + 1)).any ent1 = ((G.take i).any ent1 || ent1 G[i]) by rw [List.take_succ_eq_append_getElem hgm, List.any_append]; simp)
        have HLT2 := Lib.hid (show ((G.take i).map defG).length ≤ i by rw [List.length_map]; exact List.length_take_le _ _)
        have hat := HGX.out i hgm hm
        obtain ⟨y, hy, hys⟩ := HGY.out _ (List.getElem_mem hgm)
        obtain ⟨s, hs⟩ : ∃ s, (namesU xs)[i] = s := ⟨_, rfl⟩
        rw [hs] at g1 hat
        have HFL := Lib.hid (show (xs.filter fun x => x.s == s).length ≤ n from Nat.le_trans (List.length_filter_le _ _) HN.out.1)
        obtain ⟨gl, hgl⟩ : ∃ l, (xs.filter fun x => x.s == s) = l := ⟨_, rfl⟩
        have HOS := Lib.hid (HOF.out s wr hb)
        rw [hgl] at HFL HOS hat
        rw [hat] at hy hys HTD HTE
        dsimp only at hy hys
        have HK0 := Lib.hid (show ent1 ⟨s, gl⟩ = (s == mainS && ((y.f && y.p == 0) && gl.any dfB)) by unfold ent1; rw [k0_at (show (Gp.mk s gl).l[0]? = some y from hy)])
        have i0 : (0 : Int) ≤ (i : Int) := Int.natCast_nonneg _
        have i1 : (i : Int) < (nn : Int) := by omega
        have HLT := Lib.hid hlt
        clear hs hm hgm hlt ho hb hbl2 hgl hat
        obtain ⟨en, hen⟩ : ∃ b, (G.take i).any ent1 = b := ⟨_, rfl⟩
        rw [hen] at HTE ⊢
        clear hen
        go_wp2_with fail
        refine HOS.out.mono ?_
        rintro r w3 ⟨v3, rfl, ho3, hb3⟩
        obtain ⟨A3, c3, hv3, hrf3⟩ := ho3.below2
        obtain ⟨m, hm⟩ : ∃ n, gl.length = n := ⟨_, rfl⟩
        rw [hm] at hv3 HFL
        subst hv3
        have HB3 := Lib.hid (bthen HBI.out hb3)
        have HO3 := Lib.hid (HO.out.quiet hb3)
        have HB3S := Lib.hid (show wr.heap.size ≤ w3.heap.size from hb3.size)
        have HDF := Lib.hid (refDef_any y gl A3 m c3 w3 hm (by have := HFL.out; have := HT.out; omega) hy hrf3)
        have hl0 : 0 < gl.length := (List.getElem?_eq_some_iff.1 hy).1
        obtain ⟨ys3, hown3, -⟩ := ho3
        obtain ⟨b4, cc3, e3, hbw4, hbl4⟩ := hown3.form hl0
        have ev3 := (Value.slice.inj e3).1
        subst ev3
        obtain ⟨b5, off5, hA5, -, -, -, -, p3, -⟩ := RowOf.at_ hrf3 hl0
        have eA := Option.some.inj hA5
        simp only [Addr.mk.injEq, and_true] at eA
        obtain ⟨eb, eo⟩ := eA
        subst eb eo
        rw [(List.getElem?_eq_some_iff.1 hy).2, Nat.zero_mul, Nat.add_zero] at p3
        have HP3 := Lib.hid (fun (U : World) (hU : Below w3.heap.size w3 U) => (cellNext hbl4 hU _).trans p3)
        have HBL4 := Lib.hid (And.intro hbw4 hbl4)
        have m0 : (0 : Int) < (m : Int) := by omega
        have m00 : 0 < m := by omega
        have m9 : (m : Int) ≤ 9223372036854775807 := by have := HFL.out; have := HT.out; omega
        rw [hys] at HDF
        obtain ⟨D, hD⟩ : ∃ D, defG ⟨s, gl⟩ = D := ⟨_, rfl⟩
        have HD5 := Lib.hid (show D.s = s ∧ D.f = y.f ∧ D.h = gl.any dfB by rw [← hD]; exact ⟨rfl, by unfold defG; dsimp only; rw [hy]; rfl, rfl⟩)
        rw [hD] at HDF HTD
        obtain ⟨Ds, Do, Dff, Dw, Dh⟩ := D
        dsimp only at HD5
        obtain ⟨e1, e2, e3⟩ := HD5.out
        subst e1 e2 e3
        unfold dfC at HDF
        dsimp only at HDF
        clear hown3 e3 hbw4 hb3 hrf3 hm hy hys hl0 hbl4 p3 g1 hD HD5 hA5 hnL
        go_wp2_with fail
        refine HDF.out.mono ?_
        rintro r w4 ⟨rfl, hb4⟩
        have HB4 := Lib.hid (bthen HB3.out hb4)
        have HB43 := Lib.hid hb4
        have HO4 := Lib.hid (HO3.out.quiet hb4)
        have HP4 := Lib.hid (HP3.out _ hb4)
        have HBA := Lib.hid (bthen HB4.out (balloc (Below.refl _ w4) (.cells #[.string Ds, .int .i64 Do, .bool y.f, .bool Dw, .bool (gl.any dfB)] 49)))
        have HOA := Lib.hid (HO4.out.quiet (balloc (Below.refl _ w4) (.cells #[.string Ds, .int .i64 Do, .bool y.f, .bool Dw, .bool (gl.any dfB)] 49)))
        have HDB := Lib.hid (heap_alloc_new w4 (.cells #[.string Ds, .int .i64 Do, .bool y.f, .bool Dw, .bool (gl.any dfB)] 49))
        have HB4S := Lib.hid (World.size_alloc w4 (.cells #[.string Ds, .int .i64 Do, .bool y.f, .bool Dw, .bool (gl.any dfB)] 49))
        have HBW4 := Lib.hid (show Below w4.heap.size w4 (w4.alloc (.cells #[.string Ds, .int .i64 Do, .bool y.f, .bool Dw, .bool (gl.any dfB)] 49)) from balloc (Below.refl _ w4) _)
        clear hb4
        obtain ⟨wf, hwf⟩ : ∃ b, y.f = b := ⟨_, rfl⟩
        obtain ⟨wd, hwd⟩ : ∃ b, gl.any dfB = b := ⟨_, rfl⟩
        obtain ⟨wp, hwp⟩ : ∃ b, y.p = b := ⟨_, rfl⟩
        rw [hwf, hwd, hwp] at HK0
        rw [hwf, hwd] at HDB HBA HOA HB4S HBW4 HTD ⊢
        rw [hwp] at HP4
        have HKP := Lib.hid (fun (w5 : World) (hg : (w4.alloc (.cells #[.string Ds, .int .i64 Do, .bool wf, .bool Dw, .bool wd] 49)).grownBy w5 (Value.slice A0 nL z0).ownBlock) => (show w5.cell? ⟨b4, 0 + 3, none⟩ = some (.int .i64 wp) ∧ w5.cell? ⟨w4.heap.size, 0, none⟩ = some (.string Ds) ∧ w5.cell? ⟨w4.heap.size, 2, none⟩ = some (.bool wf) ∧ w5.cell? ⟨w4.heap.size, 4, none⟩ = some (.bool wd) from by
          have hz : w3.heap.size ≤ w4.heap.size := HB43.out.size
          have hz2 := HB3S.out
          have k1 := hg.block w4.heap.size (by rw [HB4S.out]; omega) (fun e => by have := HVB.out _ e.symm; omega)
          have k2 := hg.block b4 (by rw [HB4S.out]; have := HBL4.out.2; omega) (fun e => by have := HVB.out _ e.symm; have := HBL4.out.1; omega)
          have k3 := k1.trans HDB.out
          exact ⟨(World.cell?_of_block k2).trans ((cellNext (show b4 < w4.heap.size by have := HBL4.out.2; omega) HBW4.out _).trans HP4.out), Lib.cell_of_heap k3 0, Lib.cell_of_heap k3 2, Lib.cell_of_heap k3 4⟩))
        clear hwf hwd hwp
        cases en with
        | true =>
          have HV := Lib.hid (show (G.take (i + 1)).any ent1 = true by rw [HTE.out]; rfl)
          go_wp2_with (at_builtin; go_loud (refine wpList_append_def2 (u := w4.alloc (.cells #[.string Ds, .int .i64 Do, .bool wf, .bool Dw, .bool wd] 49)) rfl _ _ rfl w2 _ _ ⟨Ds, Do, wf, Dw, wd⟩ _ rfl rfl (by simp) (by rfl) HOA.out (by have := HLT2.out; have := HLE.out; have := HLT.out; have := HT.out; have := HGN.out; have := HN.out; omega) HBA.out ?_; intro v' w5 ho2 hb2 hg5; have HO2 := Lib.hid ho2; have HB5 := Lib.hid hb2; clear ho2 hb2 hg5))
          go_roundw
          case rel => exact ⟨i + 1, HLT.out, by go_num, by rw [HV.out], by rw [HTD.out]; exact HO2.out, HB5.out⟩
          case measure => have := HLT.out; simp [intOf]; omega
        | false =>
          by_cases e : Ds = mainS
          · subst e
            have HKM := Lib.hid (show ent1 ⟨mainS, gl⟩ = ((wf && wp == 0) && wd) by rw [HK0.out, (jba_beq mainS mainS).2 rfl]; rfl)
            unfold mainS at HDB HBA HOA HB4S HBW4 HTD HKP ⊢
            have hst : ((⟨#[109, 97, 105, 110]⟩ : ByteArray).toList == (⟨#[109, 97, 105, 110]⟩ : ByteArray).toList) = true := by simp
            cases wf with
            | false =>
              have HV := Lib.hid (show (G.take (i + 1)).any ent1 = false by rw [HTE.out]; exact HKM.out)
              go_wp2_with (at_builtin; go_loud (refine wpList_append_def2 (u := w4.alloc (.cells #[.string ⟨#[109, 97, 105, 110]⟩, .int .i64 Do, .bool false, .bool Dw, .bool wd] 49)) rfl _ _ rfl w2 _ _ ⟨⟨#[109, 97, 105, 110]⟩, Do, false, Dw, wd⟩ _ rfl rfl (by simp) (by rfl) HOA.out (by have := HLT2.out; have := HLE.out; have := HLT.out; have := HT.out; have := HGN.out; have := HN.out; omega) HBA.out ?_; intro v' w5 ho2 hb2 hg5; have HO2 := Lib.hid ho2; have HB5 := Lib.hid hb2; obtain ⟨q3, q0, q2, q4⟩ := HKP.out w5 ((World.grownBy_alloc _ _ _).trans hg5); clear ho2 hb2 hg5))
              go_roundw
              case rel => exact ⟨i + 1, HLT.out, by go_num, by rw [HV.out], by rw [HTD.out]; exact HO2.out, HB5.out⟩
              case measure => have := HLT.out; simp [intOf]; omega
            | true =>
              cases wd with
              | false =>
                have HV := Lib.hid (show (G.take (i + 1)).any ent1 = false by rw [HTE.out]; exact HKM.out.trans (by simp))
                go_wp2_with (at_builtin; go_loud (refine wpList_append_def2 (u := w4.alloc (.cells #[.string ⟨#[109, 97, 105, 110]⟩, .int .i64 Do, .bool true, .bool Dw, .bool false] 49)) rfl _ _ rfl w2 _ _ ⟨⟨#[109, 97, 105, 110]⟩, Do, true, Dw, false⟩ _ rfl rfl (by simp) (by rfl) HOA.out (by have := HLT2.out; have := HLE.out; have := HLT.out; have := HT.out; have := HGN.out; have := HN.out; omega) HBA.out ?_; intro v' w5 ho2 hb2 hg5; have HO2 := Lib.hid ho2; have HB5 := Lib.hid hb2; obtain ⟨q3, q0, q2, q4⟩ := HKP.out w5 ((World.grownBy_alloc _ _ _).trans hg5); clear ho2 hb2 hg5))
                go_roundw
                case rel => exact ⟨i + 1, HLT.out, by go_num, by rw [HV.out], by rw [HTD.out]; exact HO2.out, HB5.out⟩
                case measure => have := HLT.out; simp [intOf]; omega
              | true =>
                by_cases ep : wp = 0
                · subst ep
                  have HV := Lib.hid (show (G.take (i + 1)).any ent1 = true by rw [HTE.out]; exact HKM.out)
                  go_wp2_with (at_builtin; go_loud (refine wpList_append_def2 (u := w4.alloc (.cells #[.string ⟨#[109, 97, 105, 110]⟩, .int .i64 Do, .bool true, .bool Dw, .bool true] 49)) rfl _ _ rfl w2 _ _ ⟨⟨#[109, 97, 105, 110]⟩, Do, true, Dw, true⟩ _ rfl rfl (by simp) (by rfl) HOA.out (by have := HLT2.out; have := HLE.out; have := HLT.out; have := HT.out; have := HGN.out; have := HN.out; omega) HBA.out ?_; intro v' w5 ho2 hb2 hg5; have HO2 := Lib.hid ho2; have HB5 := Lib.hid hb2; obtain ⟨q3, q0, q2, q4⟩ := HKP.out w5 ((World.grownBy_alloc _ _ _).trans hg5); clear ho2 hb2 hg5))
                  go_roundw
                  case rel => exact ⟨i + 1, HLT.out, by go_num, by rw [HV.out], by rw [HTD.out]; exact HO2.out, HB5.out⟩
                  case measure => have := HLT.out; simp [intOf]; omega
                · have ep2 : (wp == 0) = false := by simpa using ep
                  have HV := Lib.hid (show (G.take (i + 1)).any ent1 = false by rw [HTE.out]; exact HKM.out.trans (by rw [ep2]; rfl))
                  go_wp2_with (at_builtin; go_loud (refine wpList_append_def2 (u := w4.alloc (.cells #[.string ⟨#[109, 97, 105, 110]⟩, .int .i64 Do, .bool true, .bool Dw, .bool true] 49)) rfl _ _ rfl w2 _ _ ⟨⟨#[109, 97, 105, 110]⟩, Do, true, Dw, true⟩ _ rfl rfl (by simp) (by rfl) HOA.out (by have := HLT2.out; have := HLE.out; have := HLT.out; have := HT.out; have := HGN.out; have := HN.out; omega) HBA.out ?_; intro v' w5 ho2 hb2 hg5; have HO2 := Lib.hid ho2; have HB5 := Lib.hid hb2; obtain ⟨q3, q0, q2, q4⟩ := HKP.out w5 ((World.grownBy_alloc _ _ _).trans hg5); clear ho2 hb2 hg5))
                  go_roundw
                  case rel => exact ⟨i + 1, HLT.out, by go_num, by rw [HV.out], by rw [HTD.out]; exact HO2.out, HB5.out⟩
                  case measure => have := HLT.out; simp [intOf]; omega
          · obtain ⟨hs1, hs2⟩ := str_otherD e
            have HKM := Lib.hid (show ent1 ⟨Ds, gl⟩ = false by rw [HK0.out, hs1]; rfl)
            unfold mainS at hs1 hs2 e
            have hs3 : (Ds.toList == [109, 97, 105, 110]) = false := by simpa using hs2
            have hs4 : ¬ Ds.toList = [109, 97, 105, 110] := by simpa using hs3
            clear hs1 hs2 e
            have HV := Lib.hid (show (G.take (i + 1)).any ent1 = false by rw [HTE.out]; exact HKM.out)
            go_wp2_with (at_builtin; go_loud (refine wpList_append_def2 (u := w4.alloc (.cells #[.string Ds, .int .i64 Do, .bool wf, .bool Dw, .bool wd] 49)) rfl _ _ rfl w2 _ _ ⟨Ds, Do, wf, Dw, wd⟩ _ rfl rfl (by simp) (by rfl) HOA.out (by have := HLT2.out; have := HLE.out; have := HLT.out; have := HT.out; have := HGN.out; have := HN.out; omega) HBA.out ?_; intro v' w5 ho2 hb2 hg5; have HO2 := Lib.hid ho2; have HB5 := Lib.hid hb2; obtain ⟨q3, q0, q2, q4⟩ := HKP.out w5 ((World.grownBy_alloc _ _ _).trans hg5); clear ho2 hb2 hg5))
            go_roundw
            case rel => exact ⟨i + 1, HLT.out, by go_num, by rw [HV.out], by rw [HTD.out]; exact HO2.out, HB5.out⟩
            case measure => have := HLT.out; simp [intOf]; omega
    · go_wp2_with fail
      go_loopw [7] (fun iv wi => ∃ i : Nat, i ≤ nn ∧ iv = .int .i64 i ∧ (G.take i).any (isW 10) = false ∧ Below w2.heap.size w2 wi) (fun iv _ => nn - (intOf iv).toNat)
      case atStart => exact ⟨0, Nat.zero_le _, rfl, rfl, HB.out⟩
      case round =>
        obtain ⟨i, hi, rfl, hno, hb⟩ := hrel
        have HNO := Lib.hid hno
        have HBI := Lib.hid hb
        by_cases hlt : i < nn
        case neg =>
          have hd : decide ((i : Int) < (nn : Int)) = false := by simp; omega
          have HV := Lib.hid (show G.any (isW 10) = false by have h := HNO.out; rwa [List.take_of_length_le (by have := HGN.out; omega)] at h)
          clear hno hb
          go_wp2_with fail
          go_roundw
          case rel => exact ⟨1, by omega, by omega, rfl, fun _ => HV.out, fun h => absurd h (by omega), fun h => absurd h (by omega), HBI.out⟩
          case measure => simp [intOf]
        have hm : i < (namesU xs).length := by have := HNN.out; omega
        have hgm : i < G.length := by have := HGN.out; omega
        obtain ⟨b2, off2, hA2, hbl2, g1⟩ := RowOf.at_ (HST.out.next hb) hm
        subst hA2
        rw [Nat.mul_one] at g1
        have HAT := Lib.hid (HGX.out i hgm hm)
        have HTK := Lib.hid (show (G.take (i + 1)).any (isW 10) = isW 10 G[i] by rw [List.take_succ_eq_append_getElem hgm, List.any_append, HNO.out]; simp)
        have HMEM := Lib.hid (show isW 10 G[i] = true → G.any (isW 10) = true from fun h => List.any_eq_true.2 ⟨_, List.getElem_mem hgm, h⟩)
        obtain ⟨s, hs⟩ : ∃ s, (namesU xs)[i] = s := ⟨_, rfl⟩
        rw [hs] at g1 HAT
        have HWR := Lib.hid (show isW 10 G[i] = (wrongR (xs.filter fun x => x.s == s) == 10) by rw [HAT.out]; rfl)
        have i0 : (0 : Int) ≤ (i : Int) := Int.natCast_nonneg _
        have i1 : (i : Int) < (nn : Int) := by omega
        have HLT := Lib.hid hlt
        have HFL := Lib.hid (show (xs.filter fun x => x.s == s).length ≤ n from Nat.le_trans (List.length_filter_le _ _) HN.out.1)
        rw [HWR.out] at HTK HMEM
        obtain ⟨gl, hgl⟩ : ∃ l, (xs.filter fun x => x.s == s) = l := ⟨_, rfl⟩
        rw [hgl] at HFL HTK HMEM
        have HOS := Lib.hid (HOF.out s wr hb)
        rw [hgl] at HOS
        clear hs hm hgm hlt hno hb hbl2 hgl HAT HWR
        go_wp2_with fail
        refine HOS.out.mono ?_
        rintro r w3 ⟨v3, rfl, ho3, hb3⟩
        obtain ⟨A3, c3, hv3, hrf3⟩ := ho3.below2
        obtain ⟨m, hm⟩ : ∃ n, gl.length = n := ⟨_, rfl⟩
        rw [hm] at hv3 HFL
        subst hv3
        have HB3 := Lib.hid (bthen HBI.out hb3)
        have HWG := Lib.hid (refWrong_any gl A3 m c3 w3 hm (by have := HFL.out; have := HT.out; omega) hrf3)
        obtain ⟨bad, hbad⟩ : ∃ b, wrongR gl = b := ⟨_, rfl⟩
        rw [hbad] at HWG HTK HMEM
        clear ho3 hb3 hrf3 hm hbad g1
        go_wp2_with fail
        refine HWG.out.mono ?_
        rintro r w4 ⟨rfl, hb4⟩
        have HB4 := Lib.hid (bthen HB3.out hb4)
        clear hb4
        by_cases hc : bad = 10
        · subst hc
          have HV := Lib.hid (show E = 10 by rw [← HEQ.out]; exact tblE_10 (HMEM.out rfl))
          go_wp2_with fail
          go_ret2
          exact ⟨_, by rw [HV.out]; rfl, by rw [HV.out]; exact .inl ⟨rfl, .inl rfl⟩, bthen HB2.out HB4.out⟩
        · have hcb : (bad == 10) = false := by simpa using hc
          have HV := Lib.hid (show (G.take (i + 1)).any (isW 10) = false by rw [HTK.out, hcb])
          clear hc
          go_wp2_with fail
          go_roundw
          case rel => exact ⟨i + 1, HLT.out, by go_num, HV.out, HB4.out⟩
          case measure => have := HLT.out; simp [intOf]; omega
    · go_wp2_with fail
      go_loopw [7] (fun iv wi => ∃ i : Nat, i ≤ nn ∧ iv = .int .i64 i ∧ (G.take i).any (isW 9) = false ∧ Below w2.heap.size w2 wi) (fun iv _ => nn - (intOf iv).toNat)
      case atStart => exact ⟨0, Nat.zero_le _, rfl, rfl, HB.out⟩
      case round =>
        obtain ⟨i, hi, rfl, hno, hb⟩ := hrel
        have HNO := Lib.hid hno
        have HBI := Lib.hid hb
        by_cases hlt : i < nn
        case neg =>
          have hd : decide ((i : Int) < (nn : Int)) = false := by simp; omega
          have HV := Lib.hid (show G.any (isW 9) = false by have h := HNO.out; rwa [List.take_of_length_le (by have := HGN.out; omega)] at h)
          clear hno hb
          go_wp2_with fail
          go_roundw
          case rel => exact ⟨2, by omega, by omega, rfl, fun _ => H10.out (by omega), fun _ => HV.out, fun h => absurd h (by omega), HBI.out⟩
          case measure => simp [intOf]
        have hm : i < (namesU xs).length := by have := HNN.out; omega
        have hgm : i < G.length := by have := HGN.out; omega
        obtain ⟨b2, off2, hA2, hbl2, g1⟩ := RowOf.at_ (HST.out.next hb) hm
        subst hA2
        rw [Nat.mul_one] at g1
        have HAT := Lib.hid (HGX.out i hgm hm)
        have HTK := Lib.hid (show (G.take (i + 1)).any (isW 9) = isW 9 G[i] by rw [List.take_succ_eq_append_getElem hgm, List.any_append, HNO.out]; simp)
        have HMEM := Lib.hid (show isW 9 G[i] = true → G.any (isW 9) = true from fun h => List.any_eq_true.2 ⟨_, List.getElem_mem hgm, h⟩)
        obtain ⟨s, hs⟩ : ∃ s, (namesU xs)[i] = s := ⟨_, rfl⟩
        rw [hs] at g1 HAT
        have HWR := Lib.hid (show isW 9 G[i] = (wrongR (xs.filter fun x => x.s == s) == 9) by rw [HAT.out]; rfl)
        have i0 : (0 : Int) ≤ (i : Int) := Int.natCast_nonneg _
        have i1 : (i : Int) < (nn : Int) := by omega
        have HLT := Lib.hid hlt
        have HFL := Lib.hid (show (xs.filter fun x => x.s == s).length ≤ n from Nat.le_trans (List.length_filter_le _ _) HN.out.1)
        rw [HWR.out] at HTK HMEM
        obtain ⟨gl, hgl⟩ : ∃ l, (xs.filter fun x => x.s == s) = l := ⟨_, rfl⟩
        rw [hgl] at HFL HTK HMEM
        have HOS := Lib.hid (HOF.out s wr hb)
        rw [hgl] at HOS
        clear hs hm hgm hlt hno hb hbl2 hgl HAT HWR
        go_wp2_with fail
        refine HOS.out.mono ?_
        rintro r w3 ⟨v3, rfl, ho3, hb3⟩
        obtain ⟨A3, c3, hv3, hrf3⟩ := ho3.below2
        obtain ⟨m, hm⟩ : ∃ n, gl.length = n := ⟨_, rfl⟩
        rw [hm] at hv3 HFL
        subst hv3
        have HB3 := Lib.hid (bthen HBI.out hb3)
        have HWG := Lib.hid (refWrong_any gl A3 m c3 w3 hm (by have := HFL.out; have := HT.out; omega) hrf3)
        obtain ⟨bad, hbad⟩ : ∃ b, wrongR gl = b := ⟨_, rfl⟩
        rw [hbad] at HWG HTK HMEM
        clear ho3 hb3 hrf3 hm hbad g1
        go_wp2_with fail
        refine HWG.out.mono ?_
        rintro r w4 ⟨rfl, hb4⟩
        have HB4 := Lib.hid (bthen HB3.out hb4)
        clear hb4
        by_cases hc : bad = 9
        · subst hc
          have HV := Lib.hid (show E = 9 by rw [← HEQ.out]; exact tblE_9 (H10.out (by omega)) (HMEM.out rfl))
          go_wp2_with fail
          go_ret2
          exact ⟨_, by rw [HV.out]; rfl, by rw [HV.out]; exact .inl ⟨rfl, .inl rfl⟩, bthen HB2.out HB4.out⟩
        · have hcb : (bad == 9) = false := by simpa using hc
          have HV := Lib.hid (show (G.take (i + 1)).any (isW 9) = false by rw [HTK.out, hcb])
          clear hc
          go_wp2_with fail
          go_roundw
          case rel => exact ⟨i + 1, HLT.out, by go_num, HV.out, HB4.out⟩
          case measure => have := HLT.out; simp [intOf]; omega
    · go_wp2_with fail
      go_loopw [7] (fun iv wi => ∃ i : Nat, i ≤ nn ∧ iv = .int .i64 i ∧ (G.take i).any (isW 8) = false ∧ Below w2.heap.size w2 wi) (fun iv _ => nn - (intOf iv).toNat)
      case atStart => exact ⟨0, Nat.zero_le _, rfl, rfl, HB.out⟩
      case round =>
        obtain ⟨i, hi, rfl, hno, hb⟩ := hrel
        have HNO := Lib.hid hno
        have HBI := Lib.hid hb
        by_cases hlt : i < nn
        case neg =>
          have hd : decide ((i : Int) < (nn : Int)) = false := by simp; omega
          have HV := Lib.hid (show G.any (isW 8) = false by have h := HNO.out; rwa [List.take_of_length_le (by have := HGN.out; omega)] at h)
          clear hno hb
          go_wp2_with fail
          go_roundw
          case rel => exact ⟨3, by omega, by omega, rfl, fun _ => H10.out (by omega), fun _ => H9.out (by omega), fun _ => HV.out, HBI.out⟩
          case measure => simp [intOf]
        have hm : i < (namesU xs).length := by have := HNN.out; omega
        have hgm : i < G.length := by have := HGN.out; omega
        obtain ⟨b2, off2, hA2, hbl2, g1⟩ := RowOf.at_ (HST.out.next hb) hm
        subst hA2
        rw [Nat.mul_one] at g1
        have HAT := Lib.hid (HGX.out i hgm hm)
        have HTK := Lib.hid (show (G.take (i + 1)).any (isW 8) = isW 8 G[i] by rw [List.take_succ_eq_append_getElem hgm, List.any_append, HNO.out]; simp)
        have HMEM := Lib.hid (show isW 8 G[i] = true → G.any (isW 8) = true from fun h => List.any_eq_true.2 ⟨_, List.getElem_mem hgm, h⟩)
        obtain ⟨s, hs⟩ : ∃ s, (namesU xs)[i] = s := ⟨_, rfl⟩
        rw [hs] at g1 HAT
        have HWR := Lib.hid (show isW 8 G[i] = (wrongR (xs.filter fun x => x.s == s) == 8) by rw [HAT.out]; rfl)
        have i0 : (0 : Int) ≤ (i : Int) := Int.natCast_nonneg _
        have i1 : (i : Int) < (nn : Int) := by omega
        have HLT := Lib.hid hlt
        have HFL := Lib.hid (show (xs.filter fun x => x.s == s).length ≤ n from Nat.le_trans (List.length_filter_le _ _) HN.out.1)
        rw [HWR.out] at HTK HMEM
        obtain ⟨gl, hgl⟩ : ∃ l, (xs.filter fun x => x.s == s) = l := ⟨_, rfl⟩
        rw [hgl] at HFL HTK HMEM
        have HOS := Lib.hid (HOF.out s wr hb)
        rw [hgl] at HOS
        clear hs hm hgm hlt hno hb hbl2 hgl HAT HWR
        go_wp2_with fail
        refine HOS.out.mono ?_
        rintro r w3 ⟨v3, rfl, ho3, hb3⟩
        obtain ⟨A3, c3, hv3, hrf3⟩ := ho3.below2
        obtain ⟨m, hm⟩ : ∃ n, gl.length = n := ⟨_, rfl⟩
        rw [hm] at hv3 HFL
        subst hv3
        have HB3 := Lib.hid (bthen HBI.out hb3)
        have HWG := Lib.hid (refWrong_any gl A3 m c3 w3 hm (by have := HFL.out; have := HT.out; omega) hrf3)
        obtain ⟨bad, hbad⟩ : ∃ b, wrongR gl = b := ⟨_, rfl⟩
        rw [hbad] at HWG HTK HMEM
        clear ho3 hb3 hrf3 hm hbad g1
        go_wp2_with fail
        refine HWG.out.mono ?_
        rintro r w4 ⟨rfl, hb4⟩
        have HB4 := Lib.hid (bthen HB3.out hb4)
        clear hb4
        by_cases hc : bad = 8
        · subst hc
          have HV := Lib.hid (show E = 8 by rw [← HEQ.out]; exact tblE_8 (H10.out (by omega)) (H9.out (by omega)) (HMEM.out rfl))
          go_wp2_with fail
          go_ret2
          exact ⟨_, by rw [HV.out]; rfl, by rw [HV.out]; exact .inl ⟨rfl, .inl rfl⟩, bthen HB2.out HB4.out⟩
        · have hcb : (bad == 8) = false := by simpa using hc
          have HV := Lib.hid (show (G.take (i + 1)).any (isW 8) = false by rw [HTK.out, hcb])
          clear hc
          go_wp2_with fail
          go_roundw
          case rel => exact ⟨i + 1, HLT.out, by go_num, HV.out, HB4.out⟩
          case measure => have := HLT.out; simp [intOf]; omega
end Go.Proofs.Ytniolkjeblocaaa

namespace Go.Proofs.Ytniolkjeblocaaa
open Go.RowKit

def gvMd9 (s : ByteArray) (b : Int) : Md := ⟨[⟨s, b, 0, [gvBk]⟩], []⟩
theorem mdg9_results (tmps : Array Value) (w : World) (B : Nat) (v vg : Value) (hB : w.heap[B]? = some (.cells #[v, vg] 25 (0, 0))) (h2 : tmps.getD 4 undef = .pointer (some ⟨B, 0, none⟩)) :
    (results Try.f45 tmps).run Try.prog w = .ok (.agg #[v, vg]) w := by
  have c0 : w.cell? ⟨B, 0, none⟩ = some v := Lib.cell_of_heap hB 0
  have c1 : w.cell? ⟨B, 1, none⟩ = some vg := Lib.cell_of_heap hB 1
  rw [Array.getD_eq_getD_getElem?] at h2
  simp [results, Try.results45, go_sem, h2, c0, c1]
set_option maxRecDepth 100000 in
set_option maxHeartbeats 4000000 in
theorem lgives9_any (s : ByteArray) (b : Int) (w : World) : Calls Try.prog 45 #[.string s, .int .i64 b] w (NewMd (gvMd9 s b) w) := by
  go_enter Try.func45, Try.ntmps45
  go_upto_region 1 with fail
  have HX := Lib.hid (heap_alloc_new w (.cells #[.slice none 0 0, .slice none 0 0] 25))
  have HB := Lib.hid (balloc (Below.refl _ w) (.cells #[.slice none 0 0, .slice none 0 0] 25))
  generalize w.alloc (.cells #[.slice none 0 0, .slice none 0 0] 25) = W0 at *
  obtain ⟨W1, hW1⟩ : ∃ W1, W1 = ((W0.alloc (.cells #[.int .i64 1, .int .i64 0, .int .i64 0, .int .u64 0, .string ⟨#[]⟩, .slice none 0 0] 107)).alloc (.cells #[.int .i64 0, .slice (some ⟨W0.heap.size, 0, none⟩) 1 1, .int .i64 3, .int .i64 0, .int .i64 0, .slice none 0 0, .int .i64 0, .slice none 0 0] 105)) := ⟨_, rfl⟩
  obtain ⟨hbk, hb1⟩ := gv_blocks W0 W1 hW1
  have hs1 : W1.heap.size = W0.heap.size + 1 + 1 := by rw [hW1]; simp
  obtain ⟨W2, hW2⟩ : ∃ W2, W2 = W1.alloc (.cells #[.string s, .int .i64 b, .int .i64 0, .slice (some ⟨W0.heap.size + 1, 0, none⟩) 1 1] 57) := ⟨_, rfl⟩
  have hFx : W2.heap[W0.heap.size + 1 + 1]? = some (.cells #[.string s, .int .i64 b, .int .i64 0, .slice (some ⟨W0.heap.size + 1, 0, none⟩) 1 1] 57 (0, 0)) := by rw [hW2, ← hs1]; exact heap_alloc_new W1 _
  have hb2 : Below W1.heap.size W1 W2 := by rw [hW2]; exact balloc (Below.refl _ W1) _
  have hb02 := bthen hb1 hb2
  have HX1 := Lib.hid ((hb02.block _ (Array.getElem?_eq_some_iff.1 HX.out).1).trans HX.out)
  have HB1 := Lib.hid (bthen HB.out hb02)
  have hlt : w.heap.size < W0.heap.size := (Array.getElem?_eq_some_iff.1 HX.out).1
  have HR := Lib.hid (setRow_heap W2 w.heap.size _ #[.slice (some ⟨W0.heap.size + 1 + 1, 0, none⟩) 1 1, .slice none 0 0] _ _ HX1.out)
  have hF2 := (setRow_other W2 w.heap.size (W0.heap.size + 1 + 1) #[.slice (some ⟨W0.heap.size + 1 + 1, 0, none⟩) 1 1, .slice none 0 0] (by omega)).trans hFx
  have hbk2 : Blocks (W2.setRow w.heap.size #[.slice (some ⟨W0.heap.size + 1 + 1, 0, none⟩) 1 1, .slice none 0 0]) (.slice (some ⟨W0.heap.size + 1, 0, none⟩) 1 1) [gvBk] := by
    -- the blocks lie above the result's box
    subst hW2
    subst hW1
    have i0 := heap_alloc_new W0 (.cells #[.int .i64 1, .int .i64 0, .int .i64 0, .int .u64 0, .string ⟨#[]⟩, .slice none 0 0] 107)
    have k1 := balloc (Below.refl _ (W0.alloc (.cells #[.int .i64 1, .int .i64 0, .int .i64 0, .int .u64 0, .string ⟨#[]⟩, .slice none 0 0] 107))) (.cells #[.int .i64 0, .slice (some ⟨W0.heap.size, 0, none⟩) 1 1, .int .i64 3, .int .i64 0, .int .i64 0, .slice none 0 0, .int .i64 0, .slice none 0 0] 105)
    have i1 := (k1.block _ (Array.getElem?_eq_some_iff.1 i0).1).trans i0
    have b1 := heap_alloc_new (W0.alloc (.cells #[.int .i64 1, .int .i64 0, .int .i64 0, .int .u64 0, .string ⟨#[]⟩, .slice none 0 0] 107)) (.cells #[.int .i64 0, .slice (some ⟨W0.heap.size, 0, none⟩) 1 1, .int .i64 3, .int .i64 0, .int .i64 0, .slice none 0 0, .int .i64 0, .slice none 0 0] 105)
    rw [World.size_alloc] at b1
    have i2 := (setRow_other _ w.heap.size W0.heap.size #[.slice (some ⟨W0.heap.size + 1 + 1, 0, none⟩) 1 1, .slice none 0 0] (by omega)).trans ((hb2.block _ (Array.getElem?_eq_some_iff.1 i1).1).trans i1)
    have b2 := (setRow_other _ w.heap.size (W0.heap.size + 1) #[.slice (some ⟨W0.heap.size + 1 + 1, 0, none⟩) 1 1, .slice none 0 0] (by omega)).trans ((hb2.block _ (Array.getElem?_eq_some_iff.1 b1).1).trans b1)
    refine .inr ⟨by simp, W0.heap.size + 1, 0, 1, rfl, (Array.getElem?_eq_some_iff.1 b2).1, fun i hi => ?_⟩
    obtain rfl : i = 0 := by simpa using hi
    refine ⟨Lib.cell_of_heap b2 0, ⟨some ⟨W0.heap.size, 0, none⟩, 1, Lib.cell_of_heap b2 1, .inr ⟨by simp [gvBk], W0.heap.size, 0, 1, rfl, (Array.getElem?_eq_some_iff.1 i2).1, fun j hj => ?_⟩⟩, Lib.cell_of_heap b2 2, Lib.cell_of_heap b2 3, Lib.cell_of_heap b2 4, ⟨none, 0, Lib.cell_of_heap b2 5, .inl ⟨rfl, .inl rfl⟩⟩, Lib.cell_of_heap b2 6, none, 0, Lib.cell_of_heap b2 7, .inl ⟨rfl, .inl rfl⟩⟩
    obtain rfl : j = 0 := by simpa [gvBk] using hj
    exact ⟨Lib.cell_of_heap i2 0, Lib.cell_of_heap i2 1, Lib.cell_of_heap i2 2, Lib.cell_of_heap i2 3, Lib.cell_of_heap i2 4, none, 0, Lib.cell_of_heap i2 5, .inl ⟨rfl, .inl rfl⟩⟩
  have HFI := Lib.hid (show NewMd (gvMd9 s b) w (.returned (.agg #[.slice (some ⟨W0.heap.size + 1 + 1, 0, none⟩) 1 1, .slice none 0 0])) (W2.setRow w.heap.size #[.slice (some ⟨W0.heap.size + 1 + 1, 0, none⟩) 1 1, .slice none 0 0]) from
    ⟨_, rfl, ⟨.inr ⟨by simp [gvMd9], W0.heap.size + 1 + 1, 0, 1, rfl, (Array.getElem?_eq_some_iff.1 hF2).1, fun i hi => by
      obtain rfl : i = 0 := by simpa [gvMd9] using hi
      exact ⟨Lib.cell_of_heap hF2 0, Lib.cell_of_heap hF2 1, Lib.cell_of_heap hF2 2, some ⟨W0.heap.size + 1, 0, none⟩, 1, Lib.cell_of_heap hF2 3, hbk2⟩⟩, .inl ⟨rfl, .inl rfl⟩⟩, below_setRowp HB1.out (Nat.le_refl _)⟩)
  have HXE := Lib.hid (show W2 = (((W0.alloc (.cells #[.int .i64 1, .int .i64 0, .int .i64 0, .int .u64 0, .string ⟨#[]⟩, .slice none 0 0] 107)).alloc (.cells #[.int .i64 0, .slice (some ⟨W0.heap.size, 0, none⟩) 1 1, .int .i64 3, .int .i64 0, .int .i64 0, .slice none 0 0, .int .i64 0, .slice none 0 0] 105))).alloc (.cells #[.string s, .int .i64 b, .int .i64 0, .slice (some ⟨W0.heap.size + 1, 0, none⟩) 1 1] 57) by rw [hW2, hW1])
  clear hFx hF2 hbk hbk2 hb1 hb2 hb02 hs1 hlt hW1 hW2
  rw [HXE.out] at HX1 HR HFI
  clear HXE
  go_wp2_with (refine wpList_store_row rfl _ _ _ rfl w.heap.size #[.slice (some ⟨W0.heap.size + 1 + 1, 0, none⟩) 1 1, .slice none 0 0] rfl rfl _ _ HX1.out md_info rfl (by simp [Value.oneCell']) ?_)
  exact bodyPost_ret (mdg9_results _ _ w.heap.size _ _ HR.out rfl) rfl HFI.out
theorem gvMd9_ok (s : ByteArray) (b : Int) (h : s.size < 9223372036854775808) : MdOk (gvMd9 s b) := ⟨fun f hf => by
  obtain rfl : f = ⟨s, b, 0, [gvBk]⟩ := (by simpa [gvMd9] using hf)
  exact ⟨h, by simp, fun b hb => by
    obtain rfl : b = gvBk := (by simpa using hb)
    exact ⟨by decide, by decide, by decide, fun i hi => by obtain rfl : i = gvIn := (by simpa [gvBk] using hi); exact ⟨by decide, by decide⟩⟩⟩, fun g hg => by simp [gvMd9] at hg, by simp [gvMd9], by simp [gvMd9]⟩
def exMs : List Md := [gvMd9 nF 3, gvMd9 nF 2, gvMd9 mainS 2]
theorem exMs_ok : ∀ m ∈ exMs, MdOk m := by
  intro m hm
  have : m = gvMd9 nF 3 ∨ m = gvMd9 nF 2 ∨ m = gvMd9 mainS 2 := by simpa [exMs] using hm
  rcases this with rfl | rfl | rfl <;> exact gvMd9_ok _ _ (by decide)
theorem exMs_e : tblE (grp (allI exMs exMs.length)) = 0 := by decide +kernel
def exDs : List Df := [⟨nF, 1, true, false, true⟩, ⟨mainS, 2, true, false, true⟩]
theorem exMs_d : (grp (allI exMs exMs.length)).map defG = exDs := by kernel_rfl
set_option maxRecDepth 100000 in
set_option maxHeartbeats 8000000 in
theorem rshown_any (w : World) : Calls Try.prog 21 #[] w fun e w' => e = .returned (.bool true) ∧ Below w.heap.size w w' := by
  have HT := Lib.hid (fun (U : World) (A : Option Addr) (c : Nat) (hS : Mods U (.slice A 3 c) exMs) => all_any exMs A 3 c U rfl (by decide) exMs_ok (by decide) hS)
  rw [exMs_e, allD_ok, exMs_d] at HT
  go_enter Try.func21, Try.ntmps21
  go_wp2_with fail
  refine (lgives9_any nF 3 w).mono ?_
  rintro r w1 ⟨F1, rfl, m1, hb1⟩
  have HM1 := Lib.hid m1
  have HB1 := Lib.hid hb1
  clear m1 hb1
  go_wp2_with fail
  refine (lgives9_any nF 2 _).mono ?_
  rintro r w2 ⟨F2, rfl, m2, hb2⟩
  have HM2 := Lib.hid m2
  have HB2 := Lib.hid hb2
  clear m2 hb2
  go_wp2_with fail
  refine (lgives9_any mainS 2 _).mono ?_
  rintro r w3 ⟨F3, rfl, m3, hb3⟩
  have HM3 := Lib.hid m3
  have HB3 := Lib.hid hb3
  clear m3 hb3
  go_wp2_with fail
  have h4 := heap_alloc_new w3 (.cells #[.slice F1 1 1, .slice none 0 0, .slice F2 1 1, .slice none 0 0, .slice F3 1 1, .slice none 0 0] 25)
  have k4 := balloc (Below.refl _ w3) (.cells #[.slice F1 1 1, .slice none 0 0, .slice F2 1 1, .slice none 0 0, .slice F3 1 1, .slice none 0 0] 25)
  have HB4 := Lib.hid (bthen (bthen (bthen HB1.out HB2.out) HB3.out) k4)
  have n1 := ((HM1.out.next HB2.out).next HB3.out).next k4
  have n2 := (HM2.out.next HB3.out).next k4
  have n3 := HM3.out.next k4
  have HF := Lib.hid (show Mods (w3.alloc (.cells #[.slice F1 1 1, .slice none 0 0, .slice F2 1 1, .slice none 0 0, .slice F3 1 1, .slice none 0 0] 25)) (.slice (some ⟨w3.heap.size, 0, none⟩) 3 3) exMs from by
    refine .inr ⟨by simp [exMs], w3.heap.size, 0, 3, rfl, (Array.getElem?_eq_some_iff.1 h4).1, fun i hi => ?_⟩
    have hi2 : i < 3 := hi
    have : i = 0 ∨ i = 1 ∨ i = 2 := by omega
    rcases this with rfl | rfl | rfl
    · exact ⟨F1, 1, none, 0, Lib.cell_of_heap h4 0, Lib.cell_of_heap h4 1, n1⟩
    · exact ⟨F2, 1, none, 0, Lib.cell_of_heap h4 2, Lib.cell_of_heap h4 3, n2⟩
    · exact ⟨F3, 1, none, 0, Lib.cell_of_heap h4 4, Lib.cell_of_heap h4 5, n3⟩)
  clear h4 k4 n1 n2 n3
  refine (HT.out _ _ _ HF.out).mono ?_
  rintro r w5 ⟨v, rfl, hds, hb5⟩
  have HB5 := Lib.hid (bthen HB4.out hb5)
  obtain ⟨A5, c5, hv⟩ := hds.slice
  subst hv
  obtain ⟨b6, off6, hA6, -, g0, g1, -, g3, -⟩ := RowOf.at_ hds (i := 0) (by decide)
  subst hA6
  simp only [exDs, Nat.zero_mul, Nat.add_zero, List.getElem_cons_zero, nF] at g0 g1 g3
  clear hb5 hds HT HF HM1 HM2 HM3
  go_wp2_with fail
  go_ret
  exact ⟨rfl, HB5.out⟩
end Go.Proofs.Ytniolkjeblocaaa
