/- Package reach: From. -/
import Derived.Test.YtoglmdadpchhoaaR6
namespace Go.Proofs.Ytoglmdadpchhoaa
open Go.RowKit Go.Shelf

theorem refs_len (f : Fn) : (refsL f).length ≤ (insF f).length := by
  unfold refsL insF
  generalize f.l = l
  induction l with
  | nil => simp
  | cons b l ih =>
    rw [List.map_cons, List.map_cons, List.flatten_cons, List.flatten_cons, List.length_append, List.length_append]
    have : (insNames b.i).length ≤ b.i.length := by
      unfold insNames
      rw [List.length_map]
      exact List.length_filter_le _ _
    omega
theorem refs_key {f : Fn} (hok : FnOk f) : ∀ s ∈ refsL f, s.size < 9223372036854775808 := by
  intro s hs
  obtain ⟨l, hl, hsl⟩ := List.mem_flatten.1 hs
  obtain ⟨b, hb, rfl⟩ := List.mem_map.1 hl
  obtain ⟨i, hi, rfl⟩ := List.mem_map.1 hsl
  exact ((hok.2.2 b hb).2.2.2 i (List.mem_filter.1 hi).1).1
theorem allN_key {m : Md} {roots : List ByteArray} (hok : MdOk m) (hr : ∀ s ∈ roots, s.size < 9223372036854775808) : ∀ s ∈ allN m roots, s.size < 9223372036854775808 := by
  intro s hs
  rcases List.mem_append.1 hs with h | h
  · exact hr s h
  · obtain ⟨l, hl, hsl⟩ := List.mem_flatten.1 h
    obtain ⟨f, hf, rfl⟩ := List.mem_map.1 hl
    exact refs_key (hok.1 f hf) s hsl
theorem allN_len {m : Md} {roots : List ByteArray} (hk : MdK 1048576 m) (hr : roots.length ≤ 1048576) : (allN m roots).length ≤ 2097152 := by
  unfold allN
  rw [List.length_append]
  have h1 : ((m.f.map refsL).flatten).length ≤ (m.f.map fun f => (insF f).length).sum := by
    generalize m.f = l
    induction l with
    | nil => simp
    | cons f l ih =>
      rw [List.map_cons, List.map_cons, List.flatten_cons, List.length_append, List.sum_cons]
      have := refs_len f
      omega
  have := hk.2.1
  omega
theorem leads_len {m : Md} (hk : MdK 1048576 m) (x : ByteArray) : (leadsM m x).length ≤ 1048576 := by
  unfold leadsM
  split
  · rename_i f hf
    have h1 := refs_len f
    have h2 := (hk.2.2 f (fnOf_mem hf).1).2.1
    omega
  · simp
set_option maxRecDepth 100000 in
set_option maxHeartbeats 2000000 in
theorem from1_any (m : Md) (x : ByteArray) (w0 : World) (bx b n : Nat) (W : World) (hok : MdOk m) (hk : MdK 1048576 m) (hx : x.size < 9223372036854775808) (hw : Below w0.heap.size w0 W) (hc : W.cell? ⟨bx, 0, none⟩ = some (.map (some b))) (hF : FiAt w0 W b n m.f) :
    Calls Try.prog 58 #[.string x, .pointer (some ⟨bx, 0, none⟩)] W (MadeN (leadsM m x) W) := by
  rcases fi_look hF hx with ⟨f, A, c, e1, hb, r1, -⟩ | ⟨e1, r1, -⟩
  · have hm := (fnOf_mem (m := m) (n := x) e1).1
    have HL := Lib.hid (show leadsM m x = refsL f by unfold leadsM fnOf; rw [e1])
    have HR := Lib.hid (fun (U : World) (hU : Below W.heap.size W U) => refsO_any f A f.l.length c U rfl (hok.1 f hm) (by have := (hk.2.2 f hm).2.1; omega) (hb.next (bthen hw hU)))
    unfold fnV at r1
    rw [HL.out]
    obtain ⟨fs, fb, fp, fl⟩ := f
    dsimp only at r1 HR
    obtain ⟨q, hq⟩ : ∃ q, fl.length = q := ⟨_, rfl⟩
    rw [hq] at r1 HR
    obtain ⟨R, hR⟩ : ∃ R, refsL ⟨fs, fb, fp, fl⟩ = R := ⟨_, rfl⟩
    rw [hR] at HR ⊢
    clear hF hx hm hb e1 hok hk hw hq hR HL
    go_enter Try.func58, Try.ntmps58
    go_wp2_with fail
    refine (HR.out W (Below.refl _ _)).mono ?_
    rintro r w1 ⟨v, rfl, ho, hb1⟩
    obtain ⟨A1, c1, rfl⟩ := ho.form
    have HO := Lib.hid ho
    have HB := Lib.hid hb1
    clear ho hb1
    go_wp2_with fail
    go_ret
    exact ⟨A1, c1, rfl, HB.out, HO.out⟩
  · have HL := Lib.hid (show leadsM m x = [] by unfold leadsM fnOf; rw [e1])
    have HR := Lib.hid (fun (U : World) => refsO_any ⟨⟨#[]⟩, 0, 0, []⟩ none 0 0 U rfl ⟨by decide, by decide, fun b hb => absurd hb (by simp)⟩ (by decide) (.inl ⟨rfl, .inl rfl⟩))
    unfold fn0 at r1
    rw [HL.out]
    clear hF hx e1 hok hk hw HL
    go_enter Try.func58, Try.ntmps58
    go_wp2_with fail
    refine (HR.out W).mono ?_
    rintro r w1 ⟨v, rfl, ho, hb1⟩
    obtain ⟨A1, c1, rfl⟩ := ho.form
    have HO := Lib.hid ho
    have HB := Lib.hid hb1
    clear ho hb1
    go_wp2_with fail
    go_ret
    exact ⟨A1, c1, rfl, HB.out, HO.out⟩
theorem nodup_short : ∀ {a U : List ByteArray}, a.Nodup → (∀ x ∈ a, x ∈ U) → a.length ≤ U.length
  | [], _, _, _ => Nat.zero_le _
  | x :: a, U, h, hs => by
    have h2 := List.nodup_cons.1 h
    have hx := hs x (by simp)
    have := nodup_short (a := a) (U := U.erase x) h2.2 (fun y hy => (List.mem_erase_of_ne (fun e => h2.1 (by rw [← e]; exact hy))).2 (hs y (by simp [hy])))
    rw [List.length_erase_of_mem hx] at this
    have := List.length_pos_of_mem hx
    rw [List.length_cons]
    omega
theorem told_short (m : Md) (roots : List ByteArray) : (toldE m roots).length ≤ (allN m roots).length := by
  have g := gone_deep (leadsM_all (m := m) (roots := roots)) (allN m roots).length roots ([], []) (fun _ hx => List.mem_append_left _ hx) List.countP_le_length
  obtain ⟨a, a1, -, -, a4, -, -⟩ := g.add
  have e : toldE m roots = a := by unfold toldE; rw [a1]; rfl
  rw [e]
  refine nodup_short a4 (fun x hx => ?_)
  rw [← e] at hx
  obtain ⟨r, hr, h⟩ := (told_mem m roots x).1 hx
  clear hx
  induction h with
  | refl => exact List.mem_append_left _ hr
  | step _ hz ih => exact leadsM_all _ ih _ hz
set_option maxRecDepth 100000 in
set_option maxHeartbeats 16000000 in
theorem from_any (m : Md) (F G : Option Addr) (nf cf ng cg : Nat) (roots : List ByteArray) (A : Option Addr) (nr cr : Nat) (w : World) (hok : MdOk m) (hk : MdK 1048576 m) (hgk : ∀ g ∈ m.g, g.s.size < 9223372036854775808) (hnf : m.f.length = nf) (hng : m.g.length = ng) (hS : MdAt w (.slice F nf cf) (.slice G ng cg) m)
    (hr : roots.length = nr) (hr9 : nr ≤ 1048576) (hrk : ∀ s ∈ roots, s.size < 9223372036854775808) (hR : Strs w (.slice A nr cr) roots) :
    Calls Try.prog 30 #[.agg #[.slice F nf cf, .slice G ng cg], .slice A nr cr] w (MadeN (fromE m roots) w) := by
  have HFI := Lib.hid (fun (U : World) (hU : Below w.heap.size w U) => firstsOf_any m F G nf cf ng cg U hok hnf (by have := hk.1; omega) ⟨hS.1.next hU, hS.2.next hU⟩)
  have HDF := Lib.hid (fun (U : World) (hU : Below w.heap.size w U) (bx b n : Nat) (w1 : World) (hw1 : Below w1.heap.size w1 U) (hc : U.cell? ⟨bx, 0, none⟩ = some (.map (some b))) (hF : FiAt w1 U b n m.f) =>
    deepFirst_any roots A nr cr U (allN m roots) (leadsM m) 58 #[] #[.pointer (some ⟨bx, 0, none⟩)] hr (by omega) (hR.next hU) (fun x hx => List.mem_append_left _ hx) leadsM_all (allN_key hok hrk) (allN_len hk (by omega)) (fun x _ => by have := leads_len hk x; omega) (fun _ _ => by kernel_rfl)
      (fun x hx V hV _ => from1_any m x w1 bx b n V hok hk (allN_key hok hrk x hx) (hw1.trans (hV.mono hw1.size)) ((cellNext (World.block_lt_of_cell? U _ hc) hV _).trans hc) (hF.same (hV.block _ hF.lt))))
  have HNA := Lib.hid (fun (U : World) (hU : Below w.heap.size w U) => names_any' m F G nf cf ng cg U hnf hng (by have := hk.1; omega) ⟨hS.1.next hU, hS.2.next hU⟩)
  have HTK := Lib.hid (show ∀ s ∈ toldE m roots, s.size < 9223372036854775808 from fun s hs => by
    obtain ⟨r, hr1, h⟩ := (told_mem m roots s).1 hs
    refine allN_key hok hrk s ?_
    induction h with
    | refl => exact List.mem_append_left _ hr1
    | step h1 hz ih => exact leadsM_all _ (ih ((told_mem m roots _).2 ⟨r, hr1, h1⟩)) _ hz)
  have HNK := Lib.hid (show ∀ s ∈ namesM m, s.size < 9223372036854775808 from fun s hs => by
    unfold namesM at hs
    rcases List.mem_append.1 hs with h | h
    · obtain ⟨f, hf, rfl⟩ := List.mem_map.1 h
      exact (hok.1 f hf).1
    · obtain ⟨g, hg, rfl⟩ := List.mem_map.1 h
      exact hgk g hg)
  have HNL := Lib.hid (show (namesM m).length = nf + ng by unfold namesM; rw [List.length_append, List.length_map, List.length_map, hnf, hng])
  have HN9 := Lib.hid (show nf + ng ≤ 1048576 by have := hk.1; omega)
  have HTL := Lib.hid (show (toldE m roots).length ≤ 2097152 by
    have h := allN_len hk (show roots.length ≤ 1048576 by omega)
    exact Nat.le_trans (told_short m roots) h)
  have hcb := heap_alloc_new w (.cells #[.slice F nf cf, .slice G ng cg] 25)
  have hb0 := balloc (Below.refl _ w) (.cells #[.slice F nf cf, .slice G ng cg] 25)
  obtain ⟨W0, hW0⟩ : ∃ U, w.alloc (.cells #[.slice F nf cf, .slice G ng cg] 25) = U := ⟨_, rfl⟩
  rw [hW0] at hcb hb0
  have HCB := Lib.hid (show Whole W0 w.heap.size 25 #[.slice F nf cf, .slice G ng cg] from hcb)
  have HB0 := Lib.hid hb0
  have c0 : W0.cell? ⟨w.heap.size, 0, none⟩ = some (.slice F nf cf) := HCB.out.cell 0
  have c1 : W0.cell? ⟨w.heap.size, 1, none⟩ = some (.slice G ng cg) := HCB.out.cell 1
  clear hok hk hgk hnf hng hS hr hr9 hrk hR hcb hb0
  go_enter Try.func30, Try.ntmps30
  go_wp2_with fail
  refine (HFI.out W0 HB0.out).mono ?_
  rintro r w1 ⟨b, rfl, hb1, hf1, hbb⟩
  obtain ⟨W1, hW1⟩ : ∃ X, w1.alloc (.cells #[.map (some b)] 94) = X := ⟨_, rfl⟩
  have hn1 : Whole W1 w1.heap.size 94 #[.map (some b)] := by rw [← hW1]; exact heap_alloc_new w1 _
  have hb1a : Below w1.heap.size w1 W1 := by rw [← hW1]; exact balloc (Below.refl _ _) _
  have HD := Lib.hid (HDF.out W1 (bthen (bthen HB0.out hb1) hb1a) w1.heap.size b nf W0 (bthen hb1 hb1a) (hn1.cell 0) (hf1.same (hb1a.block _ hf1.lt)))
  have HC1 := Lib.hid ((HCB.out.next hb1).next hb1a)
  have HB1 := Lib.hid (bthen (bthen HB0.out hb1) hb1a)
  clear c0 c1 hn1 hb1 hb1a hf1 hbb hW0
  go_wp2_with fail
  clear hW1
  refine HD.out.mono ?_
  rintro r w2 ⟨A2, z2, rfl, hb2, ho2⟩
  have HO2 := Lib.hid (show OwnsN w2 W1.heap.size (.slice A2 (toldE m roots).length z2) (toldE m roots) from ho2)
  have HC2 := Lib.hid (HC1.out.next hb2)
  have HB2 := Lib.hid (bthen HB1.out hb2)
  obtain ⟨T, hT⟩ : ∃ T, toldE m roots = T := ⟨_, rfl⟩
  have HTE := Lib.hid hT
  rw [show (deepE (leadsM m) (allN m roots).length roots ([], [])).2 = T from hT]
  rw [hT] at HO2 HTK HTL
  obtain ⟨nT, hnT⟩ : ∃ q, T.length = q := ⟨_, rfl⟩
  have HNT := Lib.hid hnT
  rw [hnT] at HO2 HTL ⊢
  clear ho2 hb2 hnT hT
  go_wp2_with fail
  refine (among_names T A2 nT z2 w2 HNT.out (by have := HTL.out; omega) HTK.out HO2.out.strs).mono ?_
  rintro r w3 ⟨b3, rfl, hb3, hbl3, hlt3, hs3⟩
  have HS3 := Lib.hid hs3
  have HC3 := Lib.hid (HC2.out.next hb3)
  have HB3 := Lib.hid (bthen HB2.out hb3)
  have c0 : w3.cell? ⟨w.heap.size, 0, none⟩ = some (.slice F nf cf) := HC3.out.cell 0
  have c1 : w3.cell? ⟨w.heap.size, 1, none⟩ = some (.slice G ng cg) := HC3.out.cell 1
  clear hb3 hbl3 hs3
  go_wp2_with fail
  refine (HNA.out w3 HB3.out).mono ?_
  rintro r w4 ⟨A4, z4, rfl, hb4, ho4⟩
  rw [HNL.out] at ho4 ⊢
  have HDL := Lib.hid (deleteSt_any (fun x => !decide (x ∈ T)) 42 #[.map (some b3)] #[] (namesM m) w3.heap.size w4.heap.size A4 (nf + ng) z4 w4 HNL.out (by have := HN9.out; omega) (ownN_at ho4 hb4.size) (fun _ _ => by kernel_rfl)
    (fun x hx cs U _ hU => lack_any T x b3 nT U (HNK.out x hx) (HS3.out.same ((hU.1.block b3 hlt3).trans (hb4.block b3 hlt3)))))
  have HB4 := Lib.hid (bthen HB3.out hb4)
  have HZ3 := Lib.hid HB3.out.size
  clear ho4 hb4 hlt3 c0 c1
  go_wp2_with fail
  refine HDL.out.mono ?_
  rintro r w5 ⟨A5, z5, rfl, hout5, ho5⟩
  have HFL := Lib.hid (show ((namesM m).filter fun x => !(!decide (x ∈ T))) = (namesM m).filter fun x => decide (x ∈ toldE m roots) by rw [HTE.out]; simp only [Bool.not_not])
  rw [HFL.out] at ho5 ⊢
  have HB5 := Lib.hid (show Below w.heap.size w w5 from HB4.out.trans (hout5.1.mono HZ3.out))
  obtain ⟨L5, hL5⟩ : ∃ L, (namesM m).filter (fun x => decide (x ∈ toldE m roots)) = L := ⟨_, rfl⟩
  have HL5 := Lib.hid hL5
  have HK5 := Lib.hid (show L5.length ≤ 1048576 ∧ ∀ s ∈ L5, s.size < 9223372036854775808 by
    rw [← hL5]
    exact ⟨Nat.le_trans (List.length_filter_le _ _) (by have := HNL.out; have := HN9.out; omega), fun s hs => HNK.out s (List.mem_filter.1 hs).1⟩)
  rw [hL5] at ho5 ⊢
  have HO5 := Lib.hid (at_strs ho5)
  obtain ⟨n5, hn5⟩ : ∃ q, L5.length = q := ⟨_, rfl⟩
  have HN5 := Lib.hid hn5
  rw [hn5] at HO5 HK5 ⊢
  clear hn5 ho5 hout5 hL5
  go_wp2_with fail
  refine (once_any L5 A5 n5 z5 w5 HN5.out HK5.out.1 HK5.out.2 HO5.out).mono ?_
  rintro r w6 ⟨A6, z6, rfl, hb6, ho6⟩
  have HF6 := Lib.hid (show fromE m roots = onceE L5 by unfold fromE; rw [HL5.out])
  have HO6 := Lib.hid (ho6.thin HB5.out.size)
  have HB6 := Lib.hid (bthen HB5.out hb6)
  clear ho6 hb6
  go_wp2_with fail
  go_ret
  rw [HF6.out]
  exact ⟨A6, z6, rfl, HB6.out, HO6.out⟩
end Go.Proofs.Ytoglmdadpchhoaa
