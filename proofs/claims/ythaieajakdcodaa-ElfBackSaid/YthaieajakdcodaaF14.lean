/- Package elf: files of different images are different. -/
import Derived.Test.YthaieajakdcodaaF11
namespace Go.Proofs.Ythaieajakdcodaa
open Go.RowKit

theorem lowest_inj {v v' n : Nat} (h : M.lowest v n = M.lowest v' n) (hv : v < 256 ^ n) (hv' : v' < 256 ^ n) : v = v' := by
  have h1 := M.num_lowest n v
  have h2 := M.num_lowest n v'
  rw [h] at h1
  rw [h1] at h2
  rw [Nat.mod_eq_of_lt hv, Nat.mod_eq_of_lt hv'] at h2
  omega
theorem app_inj {α : Type} {a b c d : List α} (h : a ++ b = c ++ d) (hl : a.length = c.length) : a = c ∧ b = d := List.append_inj h hl
theorem nums_inj (N : Nat) : ∀ (vs ws : List Nat), vs.length = ws.length → (∀ v ∈ vs, v < 256 ^ N) → (∀ v ∈ ws, v < 256 ^ N) → numsL N vs = numsL N ws → vs = ws
  | [], [], _, _, _, _ => rfl
  | [], _ :: _, h, _, _, _ => by simp at h
  | _ :: _, [], h, _, _, _ => by simp at h
  | v :: vs, w :: ws, hl, h1, h2, h => by
    unfold numsL at h
    rw [List.flatMap_cons, List.flatMap_cons] at h
    obtain ⟨a1, a2⟩ := app_inj h (by rw [M.lowest_length, M.lowest_length])
    rw [lowest_inj a1 (h1 v (by simp)) (h2 w (by simp)), nums_inj N vs ws (by simpa using hl) (fun x hx => h1 x (by simp [hx])) (fun x hx => h2 x (by simp [hx])) a2]
theorem head_inj {e c e' c' : Nat} (h : headL e c = headL e' c') (he : e < 18446744073709551616) (he' : e' < 18446744073709551616) (hc : c < 65536) (hc' : c' < 65536) : e = e' ∧ c = c' := by
  unfold headL at h
  obtain ⟨h1, h2⟩ := app_inj h (by simp only [List.length_append, numsL_length, List.length_cons, List.length_nil])
  obtain ⟨h3, -⟩ := app_inj h1 (by simp only [List.length_append, numsL_length, List.length_cons, List.length_nil])
  obtain ⟨-, h5⟩ := app_inj h3 (by simp only [List.length_append, numsL_length, List.length_cons, List.length_nil])
  have p8 : (256 : Nat) ^ 8 = 18446744073709551616 := by decide
  have p2 : (256 : Nat) ^ 2 = 65536 := by decide
  have g1 := nums_inj 8 [e, 64, 0] [e', 64, 0] rfl (by intro v hv; rw [p8]; simp at hv; omega) (by intro v hv; rw [p8]; simp at hv; omega) h5
  have g2 := nums_inj 2 [64, 56, c, 0, 0, 0] [64, 56, c', 0, 0, 0] rfl (by intro v hv; rw [p2]; simp at hv; omega) (by intro v hv; rw [p2]; simp at hv; omega) h2
  simp at g1 g2
  exact ⟨g1, g2⟩
/-- what a segment's telling says: all but its bytes -/
theorem tell_inj {s s' : Sg} {a a' : Nat} (h : tellL s a = tellL s' a') (hs : segB s = true) (hs' : segB s' = true) (hi : SgIn s) (hi' : SgIn s') (ha : a < 18446744073709551616) (ha' : a' < 18446744073709551616) :
    a = a' ∧ s.a = s'.a ∧ s.p = s'.p ∧ s.z = s'.z ∧ s.d.size = s'.d.size := by
  unfold tellL at h
  obtain ⟨h1, h2⟩ := app_inj h (by rw [numsL_length, numsL_length]; rfl)
  have p8 : (256 : Nat) ^ 8 = 18446744073709551616 := by decide
  have p4 : (256 : Nat) ^ 4 = 4294967296 := by decide
  obtain ⟨-, q2, q3, q4, q5, q6⟩ := segB_parts hs
  obtain ⟨-, r2, r3, r4, r5, r6⟩ := segB_parts hs'
  obtain ⟨u1, u2, -⟩ := permB_parts q3
  obtain ⟨v1, v2, -⟩ := permB_parts r3
  obtain ⟨⟨a0, -⟩, -, -, -⟩ := hi
  obtain ⟨⟨b0, -⟩, -, -, -⟩ := hi'
  have g1 := nums_inj 4 [1, s.p.toNat] [1, s'.p.toNat] rfl (by intro v hv; rw [p4]; simp at hv; omega) (by intro v hv; rw [p4]; simp at hv; omega) h1
  have g2 := nums_inj 8 [a, s.a.toNat, s.a.toNat, s.d.size, s.z.toNat, 256] [a', s'.a.toNat, s'.a.toNat, s'.d.size, s'.z.toNat, 256] rfl (by intro v hv; rw [p8]; simp at hv; omega) (by intro v hv; rw [p8]; simp at hv; omega) h2
  simp at g1 g2
  exact ⟨g2.1, by omega, by omega, by omega, g2.2.2.1⟩
theorem tell_pre (l : List Sg) (a : Nat) (L : List UInt8) : (l.foldl tell2 (a, L)).2 = L ++ (l.foldl tell2 (a, [])).2 ∧ (l.foldl tell2 (a, L)).1 = (l.foldl tell2 (a, [])).1 := by
  induction l generalizing a L with
  | nil => simp
  | cons g t ih =>
    rw [List.foldl_cons, List.foldl_cons]
    show (t.foldl tell2 (upN (a + g.d.size), L ++ tellL g a)).2 = L ++ (t.foldl tell2 (upN (a + g.d.size), [] ++ tellL g a)).2 ∧ _
    rw [(ih _ (L ++ tellL g a)).1, (ih _ ([] ++ tellL g a)).1]
    exact ⟨by simp, (ih _ (L ++ tellL g a)).2.trans (ih _ ([] ++ tellL g a)).2.symm⟩
/-- same but for the bytes -/
def Like (s s' : Sg) : Prop := s.a = s'.a ∧ s.p = s'.p ∧ s.z = s'.z ∧ s.d.size = s'.d.size
def Likes : List Sg → List Sg → Prop
  | [], [] => True
  | g :: t, g' :: t' => Like g g' ∧ Likes t t'
  | _, _ => False
theorem tells_inj : ∀ (l l' : List Sg) (a : Nat), l.length = l'.length → (∀ s ∈ l, segB s = true ∧ SgIn s) → (∀ s ∈ l', segB s = true ∧ SgIn s) → a + 17000 * l.length < 18446744073709551616 →
    (l.foldl tell2 (a, [])).2 = (l'.foldl tell2 (a, [])).2 → Likes l l'
  | [], [], _, _, _, _, _, _ => trivial
  | [], _ :: _, _, h, _, _, _, _ => by simp at h
  | _ :: _, [], _, h, _, _, _, _ => by simp at h
  | g :: t, g' :: t', a, hl, h1, h2, ha, h => by
    rw [List.foldl_cons, List.foldl_cons] at h
    have e1 : (t.foldl tell2 (tell2 (a, []) g)).2 = tellL g a ++ (t.foldl tell2 (upN (a + g.d.size), [])).2 := by
      have := (tell_pre t (upN (a + g.d.size)) ([] ++ tellL g a)).1
      rw [List.nil_append] at this
      exact this
    have e2 : (t'.foldl tell2 (tell2 (a, []) g')).2 = tellL g' a ++ (t'.foldl tell2 (upN (a + g'.d.size), [])).2 := by
      have := (tell_pre t' (upN (a + g'.d.size)) ([] ++ tellL g' a)).1
      rw [List.nil_append] at this
      exact this
    rw [e1, e2] at h
    obtain ⟨x1, x2⟩ := app_inj h (by rw [tellL_length, tellL_length])
    have hg := h1 g (by simp)
    have hg' := h2 g' (by simp)
    rw [List.length_cons] at ha
    obtain ⟨-, y1, y2, y3, y4⟩ := tell_inj x1 hg.1 hg'.1 hg.2 hg'.2 (by omega) (by omega)
    rw [← y4] at x2
    obtain ⟨-, -, -, -, gz, gd⟩ := segB_parts hg.1
    exact ⟨⟨y1, y2, y3, y4⟩, (tells_inj t t' _ (by simpa using hl) (fun s hs => h1 s (by simp [hs])) (fun s hs => h2 s (by simp [hs])) (by unfold upN; omega) x2)⟩
theorem dat_pre (l : List Sg) (L : List UInt8) : ∃ X, l.foldl dat2 L = L ++ X := by
  induction l generalizing L with
  | nil => exact ⟨[], by simp⟩
  | cons g t ih =>
    obtain ⟨X, hX⟩ := ih (dat2 L g)
    refine ⟨List.replicate (padN L.length) 0 ++ g.d.data.toList ++ X, ?_⟩
    rw [List.foldl_cons, hX]
    unfold dat2
    simp only [List.append_assoc]
theorem dats_inj : ∀ (l l' : List Sg) (L : List UInt8), Likes l l' → l.foldl dat2 L = l'.foldl dat2 L → l = l'
  | [], [], _, _, _ => rfl
  | [], _ :: _, _, hk, _ => absurd hk (by simp [Likes])
  | _ :: _, [], _, hk, _ => absurd hk (by simp [Likes])
  | g :: t, g' :: t', L, hkr, h => by
    obtain ⟨hk, hr⟩ : Like g g' ∧ Likes t t' := hkr
    rw [List.foldl_cons, List.foldl_cons] at h
    obtain ⟨X, hX⟩ := dat_pre t (dat2 L g)
    obtain ⟨X', hX'⟩ := dat_pre t' (dat2 L g')
    have hsz : g.d.data.toList.length = g'.d.data.toList.length := hk.2.2.2
    have h2 := h
    rw [hX, hX'] at h2
    have hlen : (dat2 L g).length = (dat2 L g').length := by
      unfold dat2
      simp only [List.length_append, hsz]
    obtain ⟨y1, -⟩ := app_inj h2 hlen
    have y2 := y1
    unfold dat2 at y2
    obtain ⟨-, y3⟩ := app_inj y2 rfl
    have hd : g.d = g'.d := by
      apply ByteArray.ext
      exact Array.toList_inj.1 y3
    have hgg : g = g' := by
      obtain ⟨a, p, d, z⟩ := g
      obtain ⟨a', p', d', z'⟩ := g'
      obtain ⟨k1, k2, k3, -⟩ := hk
      simp only at k1 k2 k3 hd
      rw [k1, k2, k3, hd]
    subst hgg
    rw [dats_inj t t' (dat2 L g) hr h]
/-- of two images that may be the files are the same just if they are -/
theorem file_inj {l l' : List Sg} {e e' : Nat} (h : fileL e l = fileL e' l') (hs : ∀ s ∈ l, segB s = true ∧ SgIn s) (hs' : ∀ s ∈ l', segB s = true ∧ SgIn s) (hl : l.length ≤ 4) (hl' : l'.length ≤ 4) (he : e < 18446744073709551616) (he' : e' < 18446744073709551616) : e = e' ∧ l = l' := by
  have hf := h
  unfold fileL told at hf
  obtain ⟨X, hX⟩ := dat_pre l (l.foldl tell2 (upN (64 + 56 * l.length), headL e l.length)).2
  obtain ⟨X', hX'⟩ := dat_pre l' (l'.foldl tell2 (upN (64 + 56 * l'.length), headL e' l'.length)).2
  rw [hX, hX', (tell_pre l _ _).1, (tell_pre l' _ _).1, List.append_assoc, List.append_assoc] at hf
  obtain ⟨h1, h2⟩ := app_inj hf (by rw [headL_length, headL_length])
  obtain ⟨rfl, hn⟩ := head_inj h1 he he' (by omega) (by omega)
  rw [← hn] at h2
  have t1 := (told_bounds (upN (64 + 56 * l.length)) [] l (fun s h => (hs s h).1)).1
  have t2 := (told_bounds (upN (64 + 56 * l.length)) [] l' (fun s h => (hs' s h).1)).1
  obtain ⟨h3, -⟩ := app_inj h2 (by rw [t1, t2, hn])
  have hk := tells_inj l l' _ hn hs hs' (by unfold upN; omega) h3
  refine ⟨rfl, ?_⟩
  have hL : (told e l).2 = (told e l').2 := by
    unfold told
    rw [(tell_pre l _ _).1, (tell_pre l' _ _).1, ← hn, h3]
  have h4 := h
  unfold fileL at h4
  rw [hL] at h4
  exact dats_inj l l' _ hk h4
end Go.Proofs.Ythaieajakdcodaa
