/- Package eval: a run begins. Package eval: a run begins: the walk. Package eval: Run, of every module. Package eval: Run, of every module: the walk. Package eval: the document's example at the head of its statements. -/
import Derived.Test.YtkalgiaapkjplaaVE
import Derived.Laws.BytesArg
import Derived.Test.YtkalgiaapkjplaaK9
namespace Go.Proofs.Ytkalgiaapkjplaa
open Go.RowKit

theorem grown_trans {a b c : World} {r : Option Nat} (h : a.grownBy b r) (k : b.grownBy c r) : a.grownBy c r :=
  ⟨k.os.trans h.os, k.tape.trans h.tape, k.output.trans h.output, Nat.le_trans h.size k.size, fun q hq hr => (k.block q (Nat.lt_of_lt_of_le hq h.size) hr).trans (h.block q hq hr)⟩
/-- what the globals are at first -/
def glE (m : Md) : ByteArray → Int := m.g.foldl (fun acc g => fun x => if x = g.s then g.i else acc x) (fun _ => 0)
def glT (l : List Gl) : ByteArray → Int := l.foldl (fun acc g => fun x => if x = g.s then g.i else acc x) (fun _ => 0)
theorem glT_snoc (l : List Gl) (g : Gl) : glT (l ++ [g]) = fun x => if x = g.s then g.i else glT l x := by simp [glT]
/-- a run without calls -/
def s0E (m : Md) : Rs := ⟨false, 0, 0, 0, 0, [], glE m, []⟩
/-- a run whose main is called -/
def s1E (m : Md) (bs : List Bk) : Rs := ⟨false, 0, 0, 0, 1, [], glE m, [⟨bs, 0, 0, []⟩]⟩
/-- the functions' blocks, in a map -/
def FOK (W0 : World) (l : List Fn) (FD : DataW Value) : Prop := ∀ f ∈ l, ∃ A cap, (∀ z, FD.atKey (slit f.s) z = .held (.slice A f.l.length cap)) ∧ Blocks W0 (.slice A f.l.length cap) f.l
theorem FOK.snoc {W0 : World} {l : List Fn} {f : Fn} {FD : DataW Value} {A : Option Addr} {cap : Nat} (h : FOK W0 l FD) (hm : Maps.IsMap FD) (hn : f.s ∉ l.map (·.s)) (hb : Blocks W0 (.slice A f.l.length cap) f.l) : FOK W0 (l ++ [f]) (FD.put (slit f.s) (.held (.slice A f.l.length cap))) := by
  intro g hg
  rcases List.mem_append.1 hg with hg | hg
  · obtain ⟨A', cap', h1, h2⟩ := h g hg
    refine ⟨A', cap', fun z => ?_, h2⟩
    rw [Maps.atKey_put_other (fun e => hn (by rw [← slit_inj e]; exact List.mem_map_of_mem hg))]
    exact h1 z
  · rw [List.mem_singleton.1 hg]
    exact ⟨A, cap, fun z => Maps.atKey_put_same hm (slit_key _) _ _, hb⟩
def GOK (l : List Gl) (GD : DataW Value) : Prop := ∀ n, GD.atKey (slit n) (.lit (.int .u64 0)) = .lit (.int .u64 (glT l n))
theorem GOK.snoc {l : List Gl} {g : Gl} {GD : DataW Value} (h : GOK l GD) (hm : Maps.IsMap GD) : GOK (l ++ [g]) (GD.put (slit g.s) (.lit (.int .u64 g.i))) := by
  intro n
  rw [glT_snoc]
  by_cases hn : n = g.s
  · subst hn
    simp only [if_true]
    exact Maps.atKey_put_same hm (slit_key _) _ _
  · simp only [if_neg hn]
    rw [Maps.atKey_put_other (fun e => hn (by rw [slit_inj e]))]
    exact h n
def zrun (inp : ByteArray) (f g : Nat) : Array Value := #[.bool false, .int .u64 0, .string ⟨#[]⟩, .int .i64 0, .int .i64 0, .int .i64 0, .slice none 0 0, .string inp, .map (some f), .map (some g), .slice none 0 0]
def l0E (f g nf ng R : Nat) (FD GD : DataW Value) : Lay := ⟨.slice none 0 0, f, g, nf, ng, FD, GD, .slice none 0 0, [], fun k => if k = R then 1 else if k = f then 2 else if k = g then 3 else 0⟩
theorem run_none {w W : World} {m : Md} {inp : ByteArray} {R f g nf ng : Nat} {FD GD : DataW Value} (hb : Below w.heap.size w W) (h1 : w.heap.size ≤ R) (h2 : w.heap.size ≤ f) (h3 : w.heap.size ≤ g) (hRf : R ≠ f) (hRg : R ≠ g) (hfg : f ≠ g)
    (hR : W.heap[R]? = some (.cells (zrun inp f g) 102 (0, 0))) (hF : W.ownsMap Try.prog 9 slR f nf FD) (hG : W.ownsMap Try.prog 9 nuR g ng GD) (hng : ng ≤ 1000) (hf : FOK w m.f FD) (hg : GOK m.g GD) :
    RunOk w m inp R (l0E f g nf ng R FD GD) (s0E m) W := by
  refine { bel := hb, low := fun k hk => ?_, high := fun k hk => ?_, tR := if_pos rfl, hR := hR, hout := World.ownsRow_nil _ _ _ _, tout := fun g' hg' => (by cases hg'), hf := hF, tf := ?_, hg := hG, tg := ?_, gn := (by simp only [l0E, s0E]; omega), hop := World.ownsRow_nil _ _ _ _, top := fun g' hg' => (by cases hg'), hv := fun i hi => (by simp [l0E] at hi), hb := fun x hx => (by simp [l0E] at hx), hcs := rfl, fF := hf, gF := hg }
  · simp only [l0E]
    rw [if_neg (by omega), if_neg (by omega), if_neg (by omega)]
  · have a1 := (Array.getElem?_eq_some_iff.1 hR).1
    have a2 := hF.lt
    have a3 := hG.lt
    simp only [l0E]
    rw [if_neg (by omega), if_neg (by omega), if_neg (by omega)]
  · simp only [l0E]
    rw [if_neg hRf.symm, if_pos trivial]
  · simp only [l0E]
    rw [if_neg hRg.symm, if_neg hfg.symm, if_pos trivial]
/-- a block beside the run changes -/
theorem RunOk.foreign {W0 : World} {m : Md} {inp : ByteArray} {R : Nat} {L : Lay} {s : Rs} {W W' : World} {x : Nat} (h : RunOk W0 m inp R L s W) (hg : W.grownBy W' (some x)) (hx : L.lab x = 0) (hB : W0.heap.size ≤ x) : RunOk W0 m inp R L s W' := by
  have q : ∀ k, k < W.heap.size → L.lab k ≠ 0 → W'.heap[k]? = W.heap[k]? := fun k hk hl => hg.block k hk (fun e => hl (by cases e; exact hx))
  exact { bel := h.bel.trans ⟨hg.os, hg.tape, hg.output, hg.size, fun k hk => hg.block k (Nat.lt_of_lt_of_le hk h.bel.size) (fun e => by cases e; omega)⟩, low := h.low, high := fun k hk => h.high k (Nat.le_trans hg.size hk), tR := h.tR, hR := (q R (Array.getElem?_eq_some_iff.1 h.hR).1 (by rw [h.tR]; decide)).trans h.hR, hout := own_same h.hout (fun g hg' hk => q g hk (by rw [h.tout g hg']; decide)), tout := h.tout, hf := map_same h.hf (fun hk => q _ hk (by rw [h.tf]; decide)), tf := h.tf, hg := map_same h.hg (fun hk => q _ hk (by rw [h.tg]; decide)), tg := h.tg, gn := h.gn, hop := own_same h.hop (fun g hg' hk => q g hk (by rw [h.top g hg']; decide)), top := h.top, hv := fun i hi => ⟨own_same (h.hv i hi).1 (fun g hg' hk => q g hk (by cases hg'; rw [(h.hv i hi).2]; omega)), (h.hv i hi).2⟩, hb := h.hb, hcs := h.hcs, fF := h.fF, gF := h.gF }
/-- the run in a block of its own, anew -/
theorem RunOk.move {W0 : World} {m : Md} {inp : ByteArray} {R : Nat} {L : Lay} {s : Rs} {W : World} (h : RunOk W0 m inp R L s W) : RunOk W0 m inp W.heap.size { L with lab := relab L W.heap.size 1 } s (W.alloc (.cells (rcells inp L s) 102)) := by
  have hb := balloc (Below.refl _ W) (.cells (rcells inp L s) 102)
  have q := h.quiet hb
  have hat : L.lab W.heap.size = 1 ∨ W.heap.size ≤ W.heap.size := .inr (Nat.le_refl _)
  have n : ∀ k t, L.lab k = t → t ≠ 0 → relab L W.heap.size 1 k = t := fun k t ht h0 => by
    unfold relab
    rw [if_neg (fun e => by rw [e] at ht; exact h0 (ht.symm.trans (h.high _ (Nat.le_refl _)))), ht]
  exact { bel := q.bel, low := fun k hk => relab_low h (by decide) hat hk, high := fun k hk => relab_high h (N := W.heap.size + 1) (by omega) (by omega) (by simpa using hk), tR := relab_self _ _, hR := heap_alloc_new W _, hout := q.hout, tout := fun g hg => n _ _ (h.tout g hg) (by decide), hf := q.hf, tf := n _ _ h.tf (by decide), hg := q.hg, tg := n _ _ h.tg (by decide), gn := q.gn, hop := q.hop, top := fun g hg => n _ _ (h.top g hg) (by decide), hv := fun i hi => ⟨(q.hv i hi).1, n _ _ (h.hv i hi).2 (by omega)⟩, hb := q.hb, hcs := q.hcs, fF := q.fF, gF := q.gF }
end Go.Proofs.Ytkalgiaapkjplaa

namespace Go.Proofs.Ytkalgiaapkjplaa
open Go.RowKit

theorem run_info : (Try.prog.info? 102).map (·.size) = some 11 := by kernel_rfl
theorem own_one {w : World} {base : Nat} {e : TypeId} {size : Nat} {v : Value} {n : Nat} {xs : List Value} (h : w.ownsRow base e size v n xs) : ∃ a n c, v = .slice a n c := by
  rcases h.2 with ⟨rfl, _⟩ | ⟨g, cap, cur, rfl, _⟩ <;> exact ⟨_, _, _, rfl⟩
theorem rcells_one {W0 : World} {m : Md} {inp : ByteArray} {R : Nat} {L : Lay} {s : Rs} {W : World} (h : RunOk W0 m inp R L s W) : (rcells inp L s).all (·.oneCell') = true := by
  obtain ⟨a, n, c, e1⟩ := own_one h.hout
  obtain ⟨a', n', c', e2⟩ := own_one h.hop
  unfold rcells
  rw [e1, e2]
  simp [Value.oneCell']
/-- what begun leaves -/
def BegunPost (m : Md) (inp : ByteArray) (w : World) (bs : List Bk) (e : Ending) (w' : World) : Prop :=
  ∃ R L, e = .returned (.agg (rcells inp L (s1E m bs))) ∧ RunOk w m inp R L (s1E m bs) w' ∧ Below w.heap.size w w'
set_option maxRecDepth 100000 in
set_option maxHeartbeats 8000000 in
theorem begun_any (m : Md) (inp : ByteArray) (F G : Option Addr) (nf cf ng cg : Nat) (w : World) (hok : MdOk m) (hck : checkE m = 0) (hnf : m.f.length = nf) (hng : m.g.length = ng) (hS : MdAt w (.slice F nf cf) (.slice G ng cg) m) (f : Fn) (hmain : fnOf m mainN = some f) (hl0 : f.l ≠ []) (hp0 : f.p = 0) :
    Calls Try.prog 63 #[.agg #[.slice F nf cf, .slice G ng cg], .string inp] w (BegunPost m inp w f.l) := by
  have hcp := check_parts hck
  have HS := Lib.hid hS
  have HOK := Lib.hid hok
  have HCP := Lib.hid hcp
  have HMN := Lib.hid (show fnOf m mainN = some f ∧ f.l ≠ [] ∧ f.p = 0 from ⟨hmain, hl0, hp0⟩)
  have HNF := Lib.hid (show m.f.length ≤ nf ∧ nf ≤ m.f.length by omega)
  have HNG := Lib.hid (show m.g.length ≤ ng ∧ ng ≤ m.g.length by omega)
  have f9 : (nf : Int) ≤ 16 := by have := hcp.1; omega
  have g9 : (ng : Int) ≤ 16 := by have := hcp.2.1; omega
  clear hS hok hnf hng hcp hck hmain hl0 hp0
  have hmm := @run_makeMap Try.prog
  go_enter Try.func63, Try.ntmps63
  go_wp2_with fail
  clear hmm
  have HST := Lib.hid (show Below w.heap.size w (((((w.alloc (.cells #[.slice F nf cf, .slice G ng cg] 33)).alloc (.cells #[.bool false, .int .u64 0, .string ⟨#[]⟩, .int .i64 0, .int .i64 0, .int .i64 0, .slice none 0 0, .string ⟨#[]⟩, .map none, .map none, .slice none 0 0] 102)).alloc (.map #[] 0)).alloc (.map #[] 0)).alloc (.cells #[.bool false, .int .u64 0, .string ⟨#[]⟩, .int .i64 0, .int .i64 0, .int .i64 0, .slice none 0 0, .string inp, .map (some (w.heap.size + 1 + 1)), .map (some (w.heap.size + 1 + 1 + 1)), .slice none 0 0] 102)) ∧ (((((w.alloc (.cells #[.slice F nf cf, .slice G ng cg] 33)).alloc (.cells #[.bool false, .int .u64 0, .string ⟨#[]⟩, .int .i64 0, .int .i64 0, .int .i64 0, .slice none 0 0, .string ⟨#[]⟩, .map none, .map none, .slice none 0 0] 102)).alloc (.map #[] 0)).alloc (.map #[] 0)).alloc (.cells #[.bool false, .int .u64 0, .string ⟨#[]⟩, .int .i64 0, .int .i64 0, .int .i64 0, .slice none 0 0, .string inp, .map (some (w.heap.size + 1 + 1)), .map (some (w.heap.size + 1 + 1 + 1)), .slice none 0 0] 102)).heap[w.heap.size]? = some (.cells #[.slice F nf cf, .slice G ng cg] 33 (0, 0)) ∧ (((((w.alloc (.cells #[.slice F nf cf, .slice G ng cg] 33)).alloc (.cells #[.bool false, .int .u64 0, .string ⟨#[]⟩, .int .i64 0, .int .i64 0, .int .i64 0, .slice none 0 0, .string ⟨#[]⟩, .map none, .map none, .slice none 0 0] 102)).alloc (.map #[] 0)).alloc (.map #[] 0)).alloc (.cells #[.bool false, .int .u64 0, .string ⟨#[]⟩, .int .i64 0, .int .i64 0, .int .i64 0, .slice none 0 0, .string inp, .map (some (w.heap.size + 1 + 1)), .map (some (w.heap.size + 1 + 1 + 1)), .slice none 0 0] 102)).heap[w.heap.size + 1]? = some (.cells #[.bool false, .int .u64 0, .string ⟨#[]⟩, .int .i64 0, .int .i64 0, .int .i64 0, .slice none 0 0, .string ⟨#[]⟩, .map none, .map none, .slice none 0 0] 102 (0, 0)) ∧ (((((w.alloc (.cells #[.slice F nf cf, .slice G ng cg] 33)).alloc (.cells #[.bool false, .int .u64 0, .string ⟨#[]⟩, .int .i64 0, .int .i64 0, .int .i64 0, .slice none 0 0, .string ⟨#[]⟩, .map none, .map none, .slice none 0 0] 102)).alloc (.map #[] 0)).alloc (.map #[] 0)).alloc (.cells #[.bool false, .int .u64 0, .string ⟨#[]⟩, .int .i64 0, .int .i64 0, .int .i64 0, .slice none 0 0, .string inp, .map (some (w.heap.size + 1 + 1)), .map (some (w.heap.size + 1 + 1 + 1)), .slice none 0 0] 102)).ownsMap Try.prog 9 slR (w.heap.size + 1 + 1) 0 (.map []) ∧ (((((w.alloc (.cells #[.slice F nf cf, .slice G ng cg] 33)).alloc (.cells #[.bool false, .int .u64 0, .string ⟨#[]⟩, .int .i64 0, .int .i64 0, .int .i64 0, .slice none 0 0, .string ⟨#[]⟩, .map none, .map none, .slice none 0 0] 102)).alloc (.map #[] 0)).alloc (.map #[] 0)).alloc (.cells #[.bool false, .int .u64 0, .string ⟨#[]⟩, .int .i64 0, .int .i64 0, .int .i64 0, .slice none 0 0, .string inp, .map (some (w.heap.size + 1 + 1)), .map (some (w.heap.size + 1 + 1 + 1)), .slice none 0 0] 102)).ownsMap Try.prog 9 nuR (w.heap.size + 1 + 1 + 1) 0 (.map []) ∧ (((((w.alloc (.cells #[.slice F nf cf, .slice G ng cg] 33)).alloc (.cells #[.bool false, .int .u64 0, .string ⟨#[]⟩, .int .i64 0, .int .i64 0, .int .i64 0, .slice none 0 0, .string ⟨#[]⟩, .map none, .map none, .slice none 0 0] 102)).alloc (.map #[] 0)).alloc (.map #[] 0)).alloc (.cells #[.bool false, .int .u64 0, .string ⟨#[]⟩, .int .i64 0, .int .i64 0, .int .i64 0, .slice none 0 0, .string inp, .map (some (w.heap.size + 1 + 1)), .map (some (w.heap.size + 1 + 1 + 1)), .slice none 0 0] 102)).heap[w.heap.size + 1 + 1 + 1 + 1]? = some (.cells #[.bool false, .int .u64 0, .string ⟨#[]⟩, .int .i64 0, .int .i64 0, .int .i64 0, .slice none 0 0, .string inp, .map (some (w.heap.size + 1 + 1)), .map (some (w.heap.size + 1 + 1 + 1)), .slice none 0 0] 102 (0, 0)) from by
    obtain ⟨w1, e1⟩ : ∃ x, w.alloc (.cells #[.slice F nf cf, .slice G ng cg] 33) = x := ⟨_, rfl⟩
    obtain ⟨w2, e2⟩ : ∃ x, w1.alloc (.cells #[.bool false, .int .u64 0, .string ⟨#[]⟩, .int .i64 0, .int .i64 0, .int .i64 0, .slice none 0 0, .string ⟨#[]⟩, .map none, .map none, .slice none 0 0] 102) = x := ⟨_, rfl⟩
    obtain ⟨w3, e3⟩ : ∃ x, w2.alloc (.map #[] 0) = x := ⟨_, rfl⟩
    obtain ⟨w4, e4⟩ : ∃ x, w3.alloc (.map #[] 0) = x := ⟨_, rfl⟩
    have s1 : w1.heap.size = w.heap.size + 1 := by rw [← e1]; simp
    have s2 : w2.heap.size = w.heap.size + 1 + 1 := by rw [← e2]; simp [s1]
    have s3 : w3.heap.size = w.heap.size + 1 + 1 + 1 := by rw [← e3]; simp [s2]
    have s4 : w4.heap.size = w.heap.size + 1 + 1 + 1 + 1 := by rw [← e4]; simp [s3]
    have b1 : Below w.heap.size w w1 := by rw [← e1]; exact balloc (Below.refl _ w) _
    have b2 : Below w1.heap.size w1 w2 := by rw [← e2]; exact balloc (Below.refl _ w1) _
    have b3 : Below w2.heap.size w2 w3 := by rw [← e3]; exact balloc (Below.refl _ w2) _
    have b4 : Below w3.heap.size w3 w4 := by rw [← e4]; exact balloc (Below.refl _ w3) _
    rw [e1, e2, e3, e4]
    have b5 := balloc (Below.refl _ w4) (.cells #[.bool false, .int .u64 0, .string ⟨#[]⟩, .int .i64 0, .int .i64 0, .int .i64 0, .slice none 0 0, .string inp, .map (some (w.heap.size + 1 + 1)), .map (some (w.heap.size + 1 + 1 + 1)), .slice none 0 0] 102)
    have n1 : w1.heap[w.heap.size]? = some (.cells #[.slice F nf cf, .slice G ng cg] 33 (0, 0)) := by rw [← e1]; exact heap_alloc_new w _
    have n2 : w2.heap[w1.heap.size]? = some (.cells #[.bool false, .int .u64 0, .string ⟨#[]⟩, .int .i64 0, .int .i64 0, .int .i64 0, .slice none 0 0, .string ⟨#[]⟩, .map none, .map none, .slice none 0 0] 102 (0, 0)) := by rw [← e2]; exact heap_alloc_new w1 _
    have n5 := heap_alloc_new w4 (.cells #[.bool false, .int .u64 0, .string ⟨#[]⟩, .int .i64 0, .int .i64 0, .int .i64 0, .slice none 0 0, .string inp, .map (some (w.heap.size + 1 + 1)), .map (some (w.heap.size + 1 + 1 + 1)), .slice none 0 0] 102)
    have o3 : w3.ownsMap Try.prog 9 slR w2.heap.size 0 (.map []) := by rw [← e3]; exact World.ownsMap_made w2 _ _ _
    have o4 : w4.ownsMap Try.prog 9 nuR w3.heap.size 0 (.map []) := by rw [← e4]; exact World.ownsMap_made w3 _ _ _
    rw [s1] at n2
    rw [s2] at o3
    rw [s3] at o4
    rw [s4] at n5
    have c35 := bthen b4 b5
    refine ⟨bthen b1 (bthen b2 (bthen b3 c35)), ?_, ?_, map_same (map_same o3 (fun hk => b4.block _ hk)) (fun hk => b5.block _ hk), map_same o4 (fun hk => b5.block _ hk), n5⟩
    · exact ((bthen b2 (bthen b3 c35)).block _ (by omega)).trans n1
    · exact ((bthen b3 c35).block _ (by omega)).trans n2)
  generalize (((((w.alloc (.cells #[.slice F nf cf, .slice G ng cg] 33)).alloc (.cells #[.bool false, .int .u64 0, .string ⟨#[]⟩, .int .i64 0, .int .i64 0, .int .i64 0, .slice none 0 0, .string ⟨#[]⟩, .map none, .map none, .slice none 0 0] 102)).alloc (.map #[] 0)).alloc (.map #[] 0)).alloc (.cells #[.bool false, .int .u64 0, .string ⟨#[]⟩, .int .i64 0, .int .i64 0, .int .i64 0, .slice none 0 0, .string inp, .map (some (w.heap.size + 1 + 1)), .map (some (w.heap.size + 1 + 1 + 1)), .slice none 0 0] 102)) = w5 at *
  have HNE := Lib.hid (show (w.heap.size ≤ w.heap.size + 1 + 1 ∧ w.heap.size + 1 < w.heap.size + 1 + 1) ∧ w.heap.size + 1 + 1 < w.heap.size + 1 + 1 + 1 ∧ w.heap.size + 1 + 1 + 1 < w.heap.size + 1 + 1 + 1 + 1 by omega)
  generalize w.heap.size + 1 + 1 + 1 + 1 = R at *
  generalize w.heap.size + 1 + 1 + 1 = mg at *
  generalize w.heap.size + 1 + 1 = mf at *
  go_loopw [17] (fun iv wr => ∃ (i : Nat) (FD : DataW Value), i ≤ nf ∧ iv = .int .i64 i ∧ w5.grownBy wr (some mf) ∧ wr.ownsMap Try.prog 9 slR mf i FD ∧ FOK w (m.f.take i) FD) (fun iv _ => nf - (intOf iv).toNat)
  case atStart => exact ⟨0, _, Nat.zero_le _, rfl, ⟨rfl, rfl, rfl, Nat.le_refl _, fun _ _ _ => rfl⟩, HST.out.2.2.2.1, fun f hf => by simp at hf⟩
  case round =>
    obtain ⟨i, FD, hi, rfl, hgr, hm, hfo⟩ := hrel
    have HGR := Lib.hid hgr
    have HM := Lib.hid hm
    have HFO := Lib.hid hfo
    have HBL := Lib.hid (show Below w.heap.size w wr from by
      have hb := HST.out.1
      have hn := HNE.out
      exact hb.trans ⟨hgr.os, hgr.tape, hgr.output, hgr.size, fun k hk => hgr.block k (Nat.lt_of_lt_of_le hk hb.size) (fun e => by cases e; omega)⟩)
    have HRC := Lib.hid (show wr.heap[R]? = some (.cells (zrun inp mf mg) 102 (0, 0)) from (hgr.block R (Array.getElem?_eq_some_iff.1 HST.out.2.2.2.2.2).1 (fun e => by cases e; have hn := HNE.out; omega)).trans HST.out.2.2.2.2.2)
    have HMC := Lib.hid (show wr.heap[w.heap.size]? = some (.cells #[.slice F nf cf, .slice G ng cg] 33 (0, 0)) from (hgr.block _ (Array.getElem?_eq_some_iff.1 HST.out.2.1).1 (fun e => by cases e; have hn := HNE.out; omega)).trans HST.out.2.1)
    clear hgr hm hfo
    by_cases hlt : i < nf
    · have hmf : i < m.f.length := by have := HNF.out; omega
      obtain ⟨b, off, hA, hbl, e0⟩ := RowOf.at_ HS.out.1 hmf
      subst hA
      obtain ⟨a0, a1, a2, A, cc, a3, hbk⟩ := e0
      have c0 := (cellNext hbl HBL.out _).trans a0
      have c1 := (cellNext hbl HBL.out _).trans a1
      have c2 := (cellNext hbl HBL.out _).trans a2
      have c3 := (cellNext hbl HBL.out _).trans a3
      clear a0 a1 a2 a3
      have HFN := Lib.hid (fun (FD' : DataW Value) (e : FD' = FD.put (slit m.f[i].s) (.held (.slice A m.f[i].l.length cc))) => show FOK w (m.f.take (i + 1)) FD' from by
        rw [e, List.take_succ_eq_append_getElem hmf]
        refine HFO.out.snoc HM.out.isMap ?_ hbk
        have hnd := HCP.out.2.2.2.1
        unfold namesM at hnd
        have h1 := (List.nodup_append.1 hnd).1
        rw [← List.take_append_drop i m.f, List.map_append] at h1
        have h2 := (List.nodup_append.1 h1).2.2
        intro hin
        refine h2 _ hin m.f[i].s ?_ rfl
        exact List.mem_map_of_mem (by rw [List.drop_eq_getElem_cons hmf]; exact List.mem_cons_self ..))
      have HKY := Lib.hid (skey_of (HOK.out.1 _ (List.getElem_mem hmf)).1)
      obtain ⟨x0, h0⟩ : ∃ x, m.f[i].s = x := ⟨_, rfl⟩
      obtain ⟨x1, h1⟩ : ∃ x, m.f[i].b = x := ⟨_, rfl⟩
      obtain ⟨x2, h2⟩ : ∃ x, m.f[i].p = x := ⟨_, rfl⟩
      obtain ⟨x3, h3⟩ : ∃ x, m.f[i].l.length = x := ⟨_, rfl⟩
      rw [h0] at c0 HKY HFN
      rw [h1] at c1
      rw [h2] at c2
      rw [h3] at c3 HFN
      have hk0 : (0 : Int) ≤ (i : Int) := Int.natCast_nonneg _
      have hk1 : (i : Int) < (nf : Int) := by omega
      have HLT := Lib.hid hlt
      have HML := Lib.hid (show i < maxLen by unfold maxLen; omega)
      have hba := balloc (Below.refl _ wr) (.cells #[.string x0, .int .i64 x1, .int .i64 x2, .slice A x3 cc] 24)
      have HM1 := Lib.hid (HM.out.alloc (.cells #[.string x0, .int .i64 x1, .int .i64 x2, .slice A x3 cc] 24))
      have cR : (wr.alloc (.cells #[.string x0, .int .i64 x1, .int .i64 x2, .slice A x3 cc] 24)).cell? ⟨R, 8, none⟩ = some (.map (some mf)) := Lib.cell_of_heap ((hba.block R (Array.getElem?_eq_some_iff.1 HRC.out).1).trans HRC.out) 8
      have HG1 := Lib.hid (grown_trans HGR.out (World.grownBy_alloc wr (.cells #[.string x0, .int .i64 x1, .int .i64 x2, .slice A x3 cc] 24) (some mf)))
      clear h0 h1 h2 h3 hmf hlt hbk hbl hba
      go_wp2_with (at_mapUpdate; refine wpList_mapUpdate_own _ rfl _ _ _ 98 rfl 9 22 skeyed Try.underlying98 _ mf i _ rfl HM1.out HML.out _ _ _ rfl rfl HKY.out _ [] rfl ?_; intro w3 hm3 hg3)
      have HM3 := Lib.hid hm3
      have HG3 := Lib.hid (grown_trans HG1.out hg3)
      clear hm3 hg3 c0 c1 c2 c3 cR
      go_wp2_with fail
      go_roundw
      case rel => exact ⟨i + 1, _, HLT.out, by go_num, HG3.out, HM3.out, HFN.out _ rfl⟩
      case measure => have := HLT.out; simp [intOf]; omega
    · have hd : decide (i < nf) = false := by simp; omega
      have HF1 := Lib.hid (show FOK w m.f FD by
        have h := HFO.out
        rwa [List.take_of_length_le (by have := HNF.out; omega)] at h)
      have HG2 := Lib.hid (show wr.ownsMap Try.prog 9 nuR mg 0 (.map []) from map_same HST.out.2.2.2.2.1 (fun hk => HGR.out.block _ hk (fun e => by cases e; have hn := HNE.out; omega)))
      have HZR := Lib.hid (show wr.heap[w.heap.size + 1]? = some (.cells #[.bool false, .int .u64 0, .string ⟨#[]⟩, .int .i64 0, .int .i64 0, .int .i64 0, .slice none 0 0, .string ⟨#[]⟩, .map none, .map none, .slice none 0 0] 102 (0, 0)) from (HGR.out.block _ (Array.getElem?_eq_some_iff.1 HST.out.2.2.1).1 (fun e => by cases e; have hn := HNE.out; omega)).trans HST.out.2.2.1)
      have c1 := Lib.cell_of_heap HMC.out 1
      simp only [List.getElem?_toArray, List.getElem?_cons_zero, List.getElem?_cons_succ] at c1
      clear hlt
      go_wp2_with fail
      clear c1
      go_loopw [31] (fun iv wx => ∃ (j : Nat) (GD : DataW Value), j ≤ ng ∧ iv = .int .i64 j ∧ wr.grownBy wx (some mg) ∧ wx.ownsMap Try.prog 9 nuR mg j GD ∧ GOK (m.g.take j) GD) (fun iv _ => ng - (intOf iv).toNat)
      case atStart => exact ⟨0, _, Nat.zero_le _, rfl, ⟨rfl, rfl, rfl, Nat.le_refl _, fun _ _ _ => rfl⟩, HG2.out, fun n => rfl⟩
      case round =>
        obtain ⟨j, GD, hj, rfl, hgr, hm, hgo⟩ := hrel
        have HGX := Lib.hid hgr
        have HMX := Lib.hid hm
        have HGO := Lib.hid hgo
        have HBX := Lib.hid (show Below w.heap.size w wr from by
          have hb := HBL.out
          have hn := HNE.out
          exact hb.trans ⟨hgr.os, hgr.tape, hgr.output, hgr.size, fun k hk => hgr.block k (Nat.lt_of_lt_of_le hk hb.size) (fun e => by cases e; omega)⟩)
        have HRX := Lib.hid (show wr.heap[R]? = some (.cells (zrun inp mf mg) 102 (0, 0)) from (hgr.block R (Array.getElem?_eq_some_iff.1 HRC.out).1 (fun e => by cases e; have hn := HNE.out; omega)).trans HRC.out)
        clear hgr hm hgo
        by_cases hlt : j < ng
        · have hmg : j < m.g.length := by have := HNG.out; omega
          obtain ⟨b, off, hA, hbl, e0⟩ := RowOf.at_ HS.out.2 hmg
          subst hA
          obtain ⟨c0, c1, c2, c3⟩ := GlAt.next _ _ _ _ _ hbl HBX.out e0
          have HFN := Lib.hid (fun (GD' : DataW Value) (e : GD' = GD.put (slit m.g[j].s) (.lit (.int .u64 m.g[j].i))) => show GOK (m.g.take (j + 1)) GD' from by
            rw [e, List.take_succ_eq_append_getElem hmg]
            exact HGO.out.snoc HMX.out.isMap)
          have HKY := Lib.hid (skey_of (HOK.out.2.1 _ (List.getElem_mem hmg)))
          obtain ⟨x0, h0⟩ : ∃ x, m.g[j].s = x := ⟨_, rfl⟩
          obtain ⟨x1, h1⟩ : ∃ x, m.g[j].b = x := ⟨_, rfl⟩
          obtain ⟨x2, h2⟩ : ∃ x, m.g[j].h = x := ⟨_, rfl⟩
          obtain ⟨x3, h3⟩ : ∃ x, m.g[j].i = x := ⟨_, rfl⟩
          rw [h0] at c0 HKY HFN
          rw [h1] at c1
          rw [h2] at c2
          rw [h3] at c3 HFN
          have hk0 : (0 : Int) ≤ (j : Int) := Int.natCast_nonneg _
          have hk1 : (j : Int) < (ng : Int) := by omega
          have HLT := Lib.hid hlt
          have HML := Lib.hid (show j < maxLen by unfold maxLen; omega)
          have hba := balloc (Below.refl _ wr) (.cells #[.string x0, .int .i64 x1, .bool x2, .int .u64 x3] 92)
          have HM1 := Lib.hid (HMX.out.alloc (.cells #[.string x0, .int .i64 x1, .bool x2, .int .u64 x3] 92))
          have cR : (wr.alloc (.cells #[.string x0, .int .i64 x1, .bool x2, .int .u64 x3] 92)).cell? ⟨R, 9, none⟩ = some (.map (some mg)) := Lib.cell_of_heap ((hba.block R (Array.getElem?_eq_some_iff.1 HRX.out).1).trans HRX.out) 9
          have HG1 := Lib.hid (grown_trans HGX.out (World.grownBy_alloc wr (.cells #[.string x0, .int .i64 x1, .bool x2, .int .u64 x3] 92) (some mg)))
          clear h0 h1 h2 h3 hmg hlt e0 hbl hba
          go_wp2_with (at_mapUpdate; refine wpList_mapUpdate_own _ rfl _ _ _ 99 rfl 9 41 skeyed Try.underlying99 _ mg j _ rfl HM1.out HML.out _ _ _ rfl rfl HKY.out _ [] rfl ?_; intro w3 hm3 hg3)
          have HM3 := Lib.hid hm3
          have HG3 := Lib.hid (grown_trans HG1.out hg3)
          clear hm3 hg3 c0 c1 c2 c3 cR
          go_wp2_with fail
          go_roundw
          case rel => exact ⟨j + 1, _, HLT.out, by go_num, HG3.out, HM3.out, HFN.out _ rfl⟩
          case measure => have := HLT.out; simp [intOf]; omega
        · have hd2 : decide (j < ng) = false := by simp; omega
          have HGF := Lib.hid (show GOK m.g GD by
            have h := HGO.out
            rwa [List.take_of_length_le (by have := HNG.out; omega)] at h)
          have HZX := Lib.hid (show wr.heap[w.heap.size + 1]? = some (.cells #[.bool false, .int .u64 0, .string ⟨#[]⟩, .int .i64 0, .int .i64 0, .int .i64 0, .slice none 0 0, .string ⟨#[]⟩, .map none, .map none, .slice none 0 0] 102 (0, 0)) from (HGX.out.block _ (Array.getElem?_eq_some_iff.1 HZR.out).1 (fun e => by cases e; have hn := HNE.out; omega)).trans HZR.out)
          have HMF := Lib.hid (show wr.ownsMap Try.prog 9 slR mf i FD from map_same HM.out (fun hk => HGX.out.block _ hk (fun e => by cases e; have hn := HNE.out; omega)))
          have HOK1 := Lib.hid (show RunOk w m inp R (l0E mf mg i j R FD GD) (s0E m) wr from run_none HBX.out (by have := HNE.out; omega) (by have := HNE.out; omega) (by have := HNE.out; omega) (by have := HNE.out; omega) (by have := HNE.out; omega) (by have := HNE.out; omega) HRX.out HMF.out HMX.out (by omega) HF1.out HGF.out)
          have HCALL := Lib.hid (show Calls Try.prog 88 #[.pointer (some ⟨R, 0, none⟩), .string ⟨#[109, 97, 105, 110]⟩, .slice none 0 0] wr (CallPost w m inp R (l0E mf mg i j R FD GD) (s1E m f.l) wr) from by
            obtain ⟨h1, h2, h3⟩ := HMN.out
            obtain ⟨hfm, hfs⟩ := fnOf_mem h1
            have hl : 0 < f.l.length := List.length_pos_iff.2 h2
            have hfb : funcB f = true := by
              have h := HCP.out.2.2.1
              unfold aloneB at h
              rw [Bool.and_eq_true] at h
              exact List.all_eq_true.1 h.1 f hfm
            have hfp := func_parts hfb
            obtain ⟨p0, p6, i32, -, -⟩ := block_parts (hfp.2.1 f.l[0] (List.getElem_mem hl))
            exact call_any wr HOK1.out f hfm (HOK.out.1 f hfm).1 _ hfs f.l[0] (List.getElem?_eq_getElem hl) ((f.l[0].p).toNat + f.l[0].i.length) (by omega) (by omega) _ [] (.inl ⟨rfl, rfl⟩) (Nat.zero_le _) (by simp [l0E]) (by simp [s0E]))
          clear hlt
          go_wp2_with fail
          refine HCALL.out.mono ?_
          intro e w6 hp
          obtain ⟨⟨v6, rfl⟩, L6, hr6, hf6, -⟩ := hp
          have HR6 := Lib.hid hr6
          have hz6 := (hf6.2 (w.heap.size + 1) (Array.getElem?_eq_some_iff.1 HZX.out).1 (by have hn := HNE.out; simp only [l0E]; rw [if_neg (by omega), if_neg (by omega), if_neg (by omega)])).1.trans HZX.out
          have hl6 := (hf6.2 (w.heap.size + 1) (Array.getElem?_eq_some_iff.1 HZX.out).1 (by have hn := HNE.out; simp only [l0E]; rw [if_neg (by omega), if_neg (by omega), if_neg (by omega)])).2
          have HZ6 := Lib.hid hz6
          have HFIN := Lib.hid (show BegunPost m inp w f.l (.returned (.agg (rcells inp L6 (s1E m f.l)))) (w6.setRow (w.heap.size + 1) (rcells inp L6 (s1E m f.l))) from by
            have hg : w6.grownBy (w6.setRow (w.heap.size + 1) (rcells inp L6 (s1E m f.l))) (some (w.heap.size + 1)) := ⟨rfl, rfl, rfl, by simp, fun k _ hk => setRow_other w6 (w.heap.size + 1) k _ (fun e => hk (by rw [e]))⟩
            have h6 := hr6.foreign hg hl6 (by omega)
            exact ⟨R, L6, rfl, h6, h6.bel⟩)
          have HRES := Lib.hid (show (w6.setRow (w.heap.size + 1) (rcells inp L6 (s1E m f.l))).heap[w.heap.size + 1]? = some (.cells (rcells inp L6 (s1E m f.l)) 102 (0, 0)) from setRow_heap w6 _ _ _ _ _ hz6)
          clear hr6 hf6 hz6 hl6
          go_wp2_with (first | (refine wpList_load_row rfl _ _ rfl R rfl _ _ _ _ HR6.out.hR Try.underlying102 rfl run_info ?_) | (refine wpList_store_row rfl _ _ _ rfl (w.heap.size + 1) (rcells inp L6 (s1E m f.l)) rfl rfl _ _ HZ6.out run_info rfl (rcells_one HR6.out) ?_))
          first
            | exact bodyPost_end (results_cell_row Try.results63 _ _ _ _ _ _ _ rfl HRES.out Try.underlying102 rfl run_info) rfl HFIN.out
            | exact bodyPost_ret (results_cell_row Try.results63 _ _ _ _ _ _ _ rfl HRES.out Try.underlying102 rfl run_info) rfl HFIN.out
end Go.Proofs.Ytkalgiaapkjplaa

namespace Go.Proofs.Ytkalgiaapkjplaa
open Go.RowKit

/-- all numbers are of 64 bits -/
def MdR (m : Md) : Prop := (∀ f ∈ m.f, ∀ i ∈ insF f, U64 i.k) ∧ ∀ g ∈ m.g, U64 g.i
theorem whole_parts {m : Md} (h : wholeE m = 0) : checkE m = 0 ∧ allE m = true ∧ ∃ f, fnOf m mainN = some f ∧ f.l ≠ [] ∧ f.p = 0 := by
  unfold wholeE at h
  by_cases h1 : checkE m = 0
  · rw [if_pos h1] at h
    cases h2 : mainE m with
    | false => rw [if_neg (by rw [h2]; decide)] at h; cases h
    | true =>
      rw [if_pos h2] at h
      cases h3 : allE m with
      | false => rw [if_neg (by rw [h3]; decide)] at h; cases h
      | true =>
        refine ⟨h1, rfl, ?_⟩
        unfold mainE at h2
        cases hf : fnOf m mainN with
        | none => rw [hf] at h2; cases h2
        | some f =>
          rw [hf] at h2
          simp only [Bool.and_eq_true, decide_eq_true_eq, beq_iff_eq] at h2
          exact ⟨f, rfl, List.length_pos_iff.1 h2.1, h2.2⟩
  · rw [if_neg h1] at h
    exact absurd h h1
theorem right_of {m : Md} (hok : MdOk m) (hr : MdR m) (h : wholeE m = 0) : RightM m := by
  obtain ⟨hc, ha, -⟩ := whole_parts h
  obtain ⟨c1, c2, c3, c4, c5, c6⟩ := check_parts hc
  have hfb : ∀ f ∈ m.f, funcB f = true := by
    unfold aloneB at c3
    rw [Bool.and_eq_true] at c3
    exact List.all_eq_true.1 c3.1
  refine ⟨hok, hfb, fun f hf i hi ho => ?_, hr.1⟩
  have him : i ∈ insM m := insF_mem hf hi
  have hn := List.any_eq_false.1 c5 i him
  have hd := List.any_eq_false.1 c6 i him
  have hex : m.f.any (fun f => f.s == i.s) = true := by
    unfold noneI at hn
    simp only [ho] at hn
    cases hx : m.f.any (fun f => f.s == i.s) with
    | true => rfl
    | false => rw [hx] at hn; simp at hn
  obtain ⟨g, hg⟩ : ∃ g, fnOf m i.s = some g := by
    cases hx : fnOf m i.s with
    | some g => exact ⟨g, rfl⟩
    | none =>
      unfold fnOf at hx
      rw [List.find?_eq_none] at hx
      obtain ⟨f', hf', e⟩ := List.any_eq_true.1 hex
      exact absurd e (hx f' hf')
  obtain ⟨hgm, hgs⟩ := fnOf_mem hg
  refine ⟨g, hg, ?_, ?_⟩
  · have hal := List.all_eq_true.1 ha f hf
    have hir : i.s ∈ refsL f := by
      obtain ⟨l, hl, hil⟩ := List.mem_flatten.1 hi
      obtain ⟨b, hb, rfl⟩ := List.mem_map.1 hl
      refine List.mem_flatten.2 ⟨insNames b.i, List.mem_map_of_mem hb, ?_⟩
      unfold insNames
      exact List.mem_map.2 ⟨i, List.mem_filter.2 ⟨hil, by simp [hasB, ho]⟩, rfl⟩
    obtain ⟨x, hx, e⟩ := List.any_eq_true.1 (List.all_eq_true.1 hal i.s hir)
    rw [(jba_beq x i.s).1 e] at hx
    unfold hereN at hx
    unfold namesM at c4
    obtain ⟨n1, n2, n3⟩ := List.nodup_append.1 c4
    rcases List.mem_append.1 hx with hx | hx
    · obtain ⟨f', hf', hx⟩ := List.mem_flatMap.1 hx
      unfold hereF at hx
      by_cases hl : 0 < f'.l.length
      · rw [if_pos hl] at hx
        have hs : i.s = f'.s := by simpa using hx
        have : f' = g := by
          obtain ⟨a, ha', ea⟩ := List.getElem_of_mem hf'
          obtain ⟨b, hb', eb⟩ := List.getElem_of_mem hgm
          have hq : (m.f.map (·.s))[a]'(by simpa using ha') = (m.f.map (·.s))[b]'(by simpa using hb') := by
            simp only [List.getElem_map, ea, eb]
            rw [← hs, hgs]
          have hab : a = b := by
            rcases Nat.lt_trichotomy a b with h | h | h
            · exact absurd hq (List.pairwise_iff_getElem.1 n1 a b (by simpa using ha') (by simpa using hb') h)
            · exact h
            · exact absurd hq.symm (List.pairwise_iff_getElem.1 n1 b a (by simpa using hb') (by simpa using ha') h)
          subst hab
          rw [← ea, ← eb]
        rw [← this]
        exact List.length_pos_iff.1 hl
      · rw [if_neg hl] at hx
        cases hx
    · obtain ⟨g', hg', hx⟩ := List.mem_flatMap.1 hx
      unfold hereG at hx
      by_cases hl : g'.h = true
      · rw [if_pos hl] at hx
        have hs : i.s = g'.s := by simpa using hx
        exact absurd (hgs.trans hs) (n3 _ (List.mem_map_of_mem hgm) _ (List.mem_map_of_mem hg'))
      · rw [if_neg hl] at hx
        cases hx
  · unfold oddI at hd
    have hg' : m.f.find? (fun f => f.s == i.s) = some g := hg
    simp only [ho, hg'] at hd
    simpa using hd
theorem gl_u64 {m : Md} (hr : ∀ g ∈ m.g, U64 g.i) : ∀ n, U64 (glE m n) := by
  have : ∀ (l : List Gl) (acc : ByteArray → Int), (∀ g ∈ l, U64 g.i) → (∀ n, U64 (acc n)) → ∀ n, U64 (l.foldl (fun acc g => fun x => if x = g.s then g.i else acc x) acc n) := by
    intro l
    induction l with
    | nil => intro acc _ ha n; exact ha n
    | cons g l ih =>
      intro acc h ha n
      refine ih _ (fun g' hg' => h g' (by simp [hg'])) (fun n => ?_) n
      simp only
      split
      · exact h g (by simp)
      · exact ha n
  exact this m.g _ hr (fun _ => zeroU)
theorem good_s1 {m : Md} (hr : ∀ g ∈ m.g, U64 g.i) (hm : RightM m) {f : Fn} (hf : fnOf m mainN = some f) (hl : f.l ≠ []) (hp : f.p = 0) : Good m (s1E m f.l) := by
  have hl' : 0 < f.l.length := List.length_pos_iff.2 hl
  refine ⟨⟨⟨⟨f, (fnOf_mem hf).1, rfl⟩, ⟨f.l[0], List.getElem?_eq_getElem hl', Nat.zero_le _, ?_⟩, fun x hx => by cases hx⟩, fun d hd => by cases hd⟩, gl_u64 hr⟩
  have := (func_parts (hm.fb f (fnOf_mem hf).1)).2.2 hl'
  simp
  omega
/-- the run in a block of its own, anew -/
theorem RunOk.move' {W0 : World} {m : Md} {inp : ByteArray} {R : Nat} {L : Lay} {s : Rs} {W W' : World} (h : RunOk W0 m inp R L s W) (hb : Below W.heap.size W W') (hR : W'.heap[W.heap.size]? = some (.cells (rcells inp L s) 102 (0, 0))) : RunOk W0 m inp W.heap.size { L with lab := relab L W.heap.size 1 } s W' := by
  have q := h.quiet hb
  have hat : L.lab W.heap.size = 1 ∨ W.heap.size ≤ W.heap.size := .inr (Nat.le_refl _)
  have hlt := (Array.getElem?_eq_some_iff.1 hR).1
  have n : ∀ k t, L.lab k = t → t ≠ 0 → relab L W.heap.size 1 k = t := fun k t ht h0 => by
    unfold relab
    rw [if_neg (fun e => by rw [e] at ht; exact h0 (ht.symm.trans (h.high _ (Nat.le_refl _)))), ht]
  exact { bel := q.bel, low := fun k hk => relab_low h (by decide) hat hk, high := fun k hk => relab_high h hlt hb.size hk, tR := relab_self _ _, hR := hR, hout := q.hout, tout := fun g hg => n _ _ (h.tout g hg) (by decide), hf := q.hf, tf := n _ _ h.tf (by decide), hg := q.hg, tg := n _ _ h.tg (by decide), gn := q.gn, hop := q.hop, top := fun g hg => n _ _ (h.top g hg) (by decide), hv := fun i hi => ⟨(q.hv i hi).1, n _ _ (h.hv i hi).2 (by omega)⟩, hb := q.hb, hcs := q.hcs, fF := q.fF, gF := q.gF }
theorem out_conv {W0 : World} {m : Md} {inp : ByteArray} {R : Nat} {L : Lay} {s : Rs} {W : World} (h : RunOk W0 m inp R L s W) : (convert 97 9 L.ov).run Try.prog W = .ok (.string (strOfNums s.out)) W := by
  rcases h.hout.2 with ⟨e, h0⟩ | ⟨g, cap, cur, e, -, hg, hn, -⟩
  · rw [e, run_convert_bytes_nil W 97 5 Try.underlying97 Try.underlying5 0 0 9 Try.underlying9]
    have : s.out = [] := List.length_eq_zero_iff.1 h0
    rw [this]
    rfl
  · have ho := h.hout
    rw [e] at ho ⊢
    refine run_convert_bytes_arg W 97 5 Try.underlying97 Try.underlying5 g 0 s.out.length cap s.out rfl (fun i hi => ?_) 9 Try.underlying9
    rw [Nat.zero_add, ho.cellAt i (by omega)]
    simp [List.getElem?_eq_getElem hi]
end Go.Proofs.Ytkalgiaapkjplaa

namespace Go.Proofs.Ytkalgiaapkjplaa
open Go.RowKit

/-- what Run answers: the trace and the error, pure -/
def trE (m : Md) (inp : ByteArray) (fuel deep : Int) : Rs × Int :=
  if fuel < 0 ∨ 100000 < fuel ∨ deep < 1 ∨ 64 < deep then (⟨false, 0, 0, 0, 0, [], fun _ => 0, []⟩, 1)
  else if wholeE m = 0 then runE m inp deep.toNat fuel.toNat (s1E m (blksOf m mainN))
  else (⟨false, 0, 0, 0, 0, [], fun _ => 0, []⟩, wholeE m)
def trC (s : Rs) : Array Value := #[.bool s.en, .int .u64 s.co, .string (strOfNums s.out), .int .i64 s.read, .int .i64 s.steps, .int .i64 s.deep]
def trV (x : Rs × Int) : Value := .tuple #[.agg (trC x.1), .int .i64 x.2]
theorem trC_one (s : Rs) : (trC s).all (·.oneCell') = true := by simp [trC, Value.oneCell']
theorem trace_info : (Try.prog.info? 43).map (·.size) = some 6 := by kernel_rfl
theorem run_results (tmps : Array Value) (w : World) (B : Nat) (s : Rs) (e : Int) (hB : w.heap[B]? = some (.cells (trC s) 43 (0, 0))) (h8 : tmps.getD 8 undef = .pointer (some ⟨B, 0, none⟩)) (h9 : tmps.getD 9 undef = .int .i64 e) :
    (results Try.f27 tmps).run Try.prog w = .ok (trV (s, e)) w := by
  have c0 : w.cell? ⟨B, 0, none⟩ = some (.bool s.en) := Lib.cell_of_heap hB 0
  have c1 : w.cell? ⟨B, 1, none⟩ = some (.int .u64 s.co) := Lib.cell_of_heap hB 1
  have c2 : w.cell? ⟨B, 2, none⟩ = some (.string (strOfNums s.out)) := Lib.cell_of_heap hB 2
  have c3 : w.cell? ⟨B, 3, none⟩ = some (.int .i64 s.read) := Lib.cell_of_heap hB 3
  have c4 : w.cell? ⟨B, 4, none⟩ = some (.int .i64 s.steps) := Lib.cell_of_heap hB 4
  have c5 : w.cell? ⟨B, 5, none⟩ = some (.int .i64 s.deep) := Lib.cell_of_heap hB 5
  rw [Array.getD_eq_getD_getElem?] at h8 h9
  simp [results, Try.results27, go_sem, h8, h9, c0, c1, c2, c3, c4, c5, trV, trC]
set_option maxRecDepth 100000 in
set_option maxHeartbeats 8000000 in
theorem run_bad (m : Md) (inp : ByteArray) (fuel deep : Int) (F G : Option Addr) (nf cf ng cg : Nat) (w : World) (h : fuel < 0 ∨ 100000 < fuel ∨ deep < 1 ∨ 64 < deep) :
    Calls Try.prog 27 #[.agg #[.slice F nf cf, .slice G ng cg], .string inp, .int .i64 fuel, .int .i64 deep] w fun e w' => e = .returned (trV (trE m inp fuel deep)) ∧ Below w.heap.size w w' := by
  have HV := Lib.hid (show trE m inp fuel deep = (⟨false, 0, 0, 0, 0, [], fun _ => 0, []⟩, 1) by unfold trE; rw [if_pos h])
  have HB := Lib.hid (balloc (balloc (Below.refl _ w) (.cells #[.slice F nf cf, .slice G ng cg] 33)) (.cells #[.bool false, .int .u64 0, .string ⟨#[]⟩, .int .i64 0, .int .i64 0, .int .i64 0] 43))
  have hn := heap_alloc_new (w.alloc (.cells #[.slice F nf cf, .slice G ng cg] 33)) (.cells #[.bool false, .int .u64 0, .string ⟨#[]⟩, .int .i64 0, .int .i64 0, .int .i64 0] 43)
  rw [World.size_alloc] at hn
  have HN := Lib.hid (show ((w.alloc (.cells #[.slice F nf cf, .slice G ng cg] 33)).alloc (.cells #[.bool false, .int .u64 0, .string ⟨#[]⟩, .int .i64 0, .int .i64 0, .int .i64 0] 43)).heap[w.heap.size + 1]? = some (.cells (trC ⟨false, 0, 0, 0, 0, [], fun _ => 0, []⟩) 43 (0, 0)) from hn)
  clear hn
  rw [HV.out]
  by_cases h1 : fuel < 0
  · have d1 : decide (fuel < 0) = true := by simpa using h1
    clear h
    go_enter Try.func27, Try.ntmps27
    go_wp2_with fail
    exact bodyPost_ret (run_results _ _ (w.heap.size + 1) ⟨false, 0, 0, 0, 0, [], fun _ => 0, []⟩ 1 HN.out rfl rfl) rfl ⟨rfl, HB.out⟩
  have d1 : decide (fuel < 0) = false := by simpa using h1
  by_cases h2 : 100000 < fuel
  · have d2 : decide (100000 < fuel) = true := by simpa using h2
    clear h
    go_enter Try.func27, Try.ntmps27
    go_wp2_with fail
    exact bodyPost_ret (run_results _ _ (w.heap.size + 1) ⟨false, 0, 0, 0, 0, [], fun _ => 0, []⟩ 1 HN.out rfl rfl) rfl ⟨rfl, HB.out⟩
  have d2 : decide (100000 < fuel) = false := by simpa using h2
  by_cases h3 : deep < 1
  · have d3 : decide (deep < 1) = true := by simpa using h3
    clear h
    go_enter Try.func27, Try.ntmps27
    go_wp2_with fail
    exact bodyPost_ret (run_results _ _ (w.heap.size + 1) ⟨false, 0, 0, 0, 0, [], fun _ => 0, []⟩ 1 HN.out rfl rfl) rfl ⟨rfl, HB.out⟩
  have d3 : decide (deep < 1) = false := by simpa using h3
  have h4 : 64 < deep := by omega
  · have d4 : decide (64 < deep) = true := by simpa using h4
    clear h
    go_enter Try.func27, Try.ntmps27
    go_wp2_with fail
    exact bodyPost_ret (run_results _ _ (w.heap.size + 1) ⟨false, 0, 0, 0, 0, [], fun _ => 0, []⟩ 1 HN.out rfl rfl) rfl ⟨rfl, HB.out⟩

set_option maxRecDepth 100000 in
set_option maxHeartbeats 8000000 in
theorem run_any (m : Md) (inp : ByteArray) (fuel deep : Int) (F G : Option Addr) (nf cf ng cg : Nat) (w : World) (hok : MdOk m) (hr : MdR m) (hin : inp.size < 9223372036854775808) (hnf : m.f.length = nf) (hng : m.g.length = ng) (hS : MdAt w (.slice F nf cf) (.slice G ng cg) m) :
    Calls Try.prog 27 #[.agg #[.slice F nf cf, .slice G ng cg], .string inp, .int .i64 fuel, .int .i64 deep] w fun e w' => e = .returned (trV (trE m inp fuel deep)) ∧ Below w.heap.size w w' := by
  by_cases hbad : fuel < 0 ∨ 100000 < fuel ∨ deep < 1 ∨ 64 < deep
  · exact run_bad m inp fuel deep F G nf cf ng cg w hbad
  have d1 : decide (fuel < 0) = false := by simp; omega
  have d2 : decide (100000 < fuel) = false := by simp; omega
  have d3 : decide (deep < 1) = false := by simp; omega
  have d4 : decide (64 < deep) = false := by simp; omega
  have HV := Lib.hid (show trE m inp fuel deep = if wholeE m = 0 then runE m inp deep.toNat fuel.toNat (s1E m (blksOf m mainN)) else (⟨false, 0, 0, 0, 0, [], fun _ => 0, []⟩, wholeE m) by unfold trE; rw [if_neg hbad])
  obtain ⟨fn, hfn⟩ := Int.eq_ofNat_of_zero_le (show 0 ≤ fuel by omega)
  obtain ⟨dn, hdn⟩ := Int.eq_ofNat_of_zero_le (show 0 ≤ deep by omega)
  subst hfn
  subst hdn
  rw [Int.toNat_natCast, Int.toNat_natCast] at HV
  have HFD := Lib.hid (show fn ≤ 100000 ∧ 1 ≤ dn ∧ dn ≤ 64 by omega)
  obtain ⟨W1, hW1⟩ : ∃ x, ((w.alloc (.cells #[.slice F nf cf, .slice G ng cg] 33)).alloc (.cells #[.bool false, .int .u64 0, .string ⟨#[]⟩, .int .i64 0, .int .i64 0, .int .i64 0] 43)) = x := ⟨_, rfl⟩
  have HB1 := Lib.hid (show Below w.heap.size w W1 ∧ W1.heap[w.heap.size]? = some (.cells #[.slice F nf cf, .slice G ng cg] 33 (0, 0)) ∧ W1.heap[w.heap.size + 1]? = some (.cells (trC ⟨false, 0, 0, 0, 0, [], fun _ => 0, []⟩) 43 (0, 0)) from by
    rw [← hW1]
    have hn := heap_alloc_new (w.alloc (.cells #[.slice F nf cf, .slice G ng cg] 33)) (.cells #[.bool false, .int .u64 0, .string ⟨#[]⟩, .int .i64 0, .int .i64 0, .int .i64 0] 43)
    rw [World.size_alloc] at hn
    exact ⟨balloc (balloc (Below.refl _ w) _) _, ((balloc (Below.refl _ (w.alloc (.cells #[.slice F nf cf, .slice G ng cg] 33))) _).block w.heap.size (by simp)).trans (heap_alloc_new w _), hn⟩)
  have HWH := Lib.hid (whole_any m F G nf cf ng cg W1 hok hnf hng ⟨hS.1.next HB1.out.1, hS.2.next HB1.out.1⟩)
  have HS := Lib.hid (show MdOk m ∧ MdR m ∧ inp.size < 9223372036854775808 ∧ (m.f.length ≤ nf ∧ nf ≤ m.f.length) ∧ (m.g.length ≤ ng ∧ ng ≤ m.g.length) ∧ MdAt w (.slice F nf cf) (.slice G ng cg) m from ⟨hok, hr, hin, by omega, by omega, hS⟩)
  have m0 : W1.cell? ⟨w.heap.size, 0, none⟩ = some (.slice F nf cf) := Lib.cell_of_heap HB1.out.2.1 0
  have m1 : W1.cell? ⟨w.heap.size, 1, none⟩ = some (.slice G ng cg) := Lib.cell_of_heap HB1.out.2.1 1
  clear hbad hok hr hin hnf hng hS
  go_enter Try.func27, Try.ntmps27
  go_wp2_with fail
  refine HWH.out.mono ?_
  rintro e w2 ⟨rfl, hb2⟩
  have HB2 := Lib.hid (show Below w.heap.size w w2 ∧ w2.heap[w.heap.size]? = some (.cells #[.slice F nf cf, .slice G ng cg] 33 (0, 0)) ∧ w2.heap[w.heap.size + 1]? = some (.cells (trC ⟨false, 0, 0, 0, 0, [], fun _ => 0, []⟩) 43 (0, 0)) from ⟨bthen HB1.out.1 hb2, (hb2.block _ (Array.getElem?_eq_some_iff.1 HB1.out.2.1).1).trans HB1.out.2.1, (hb2.block _ (Array.getElem?_eq_some_iff.1 HB1.out.2.2).1).trans HB1.out.2.2⟩)
  clear hb2 m0 m1 hW1
  by_cases hw : wholeE m = 0
  case neg =>
    have HX := Lib.hid (show trE m inp fn dn = (⟨false, 0, 0, 0, 0, [], fun _ => 0, []⟩, wholeE m) by rw [HV.out, if_neg hw])
    obtain ⟨wh, hwh⟩ : ∃ x, wholeE m = x := ⟨_, rfl⟩
    rw [hwh] at hw HX ⊢
    have dw : (wh != 0) = true := by simpa using hw
    have HR2 := Lib.hid (show (w2.setRow (w.heap.size + 1) (trC ⟨false, 0, 0, 0, 0, [], fun _ => 0, []⟩)).heap[w.heap.size + 1]? = some (.cells (trC ⟨false, 0, 0, 0, 0, [], fun _ => 0, []⟩) 43 (0, 0)) ∧ Below w.heap.size w (w2.setRow (w.heap.size + 1) (trC ⟨false, 0, 0, 0, 0, [], fun _ => 0, []⟩)) from ⟨setRow_heap w2 _ _ _ _ _ HB2.out.2.2, HB2.out.1.trans ⟨rfl, rfl, rfl, by simp, fun k hk => setRow_other w2 _ k _ (by omega)⟩⟩)
    clear hwh hw
    go_wp2_with (refine wpList_store_row rfl _ _ _ rfl (w.heap.size + 1) (trC ⟨false, 0, 0, 0, 0, [], fun _ => 0, []⟩) rfl rfl _ _ HB2.out.2.2 trace_info rfl (trC_one _) ?_)
    exact bodyPost_ret (run_results _ _ (w.heap.size + 1) ⟨false, 0, 0, 0, 0, [], fun _ => 0, []⟩ wh HR2.out.1 rfl rfl) rfl ⟨by rw [HX.out], HR2.out.2⟩
  have HWP := Lib.hid (whole_parts hw)
  have HRM := Lib.hid (right_of HS.out.1 HS.out.2.1 hw)
  obtain ⟨f, hf, hl, hp⟩ := HWP.out.2.2
  have hbl : blksOf m mainN = f.l := by unfold blksOf; rw [hf]
  have HX := Lib.hid (show trE m inp fn dn = runE m inp dn fn (s1E m f.l) by rw [HV.out, if_pos hw, hbl])
  have HBG := Lib.hid (begun_any m inp F G nf cf ng cg w2 HS.out.1 HWP.out.1 (by have := HS.out.2.2.2.1; omega) (by have := HS.out.2.2.2.2.1; omega) ⟨HS.out.2.2.2.2.2.1.next HB2.out.1, HS.out.2.2.2.2.2.2.next HB2.out.1⟩ f hf hl hp)
  have HGD := Lib.hid (good_s1 HS.out.2.1.2 HRM.out hf hl hp)
  have m0 : w2.cell? ⟨w.heap.size, 0, none⟩ = some (.slice F nf cf) := Lib.cell_of_heap HB2.out.2.1 0
  have m1 : w2.cell? ⟨w.heap.size, 1, none⟩ = some (.slice G ng cg) := Lib.cell_of_heap HB2.out.2.1 1
  clear hf hl hp hbl
  rw [hw]
  clear hw
  go_wp2_with fail
  refine HBG.out.mono ?_
  intro e w3 hp
  obtain ⟨R0, L0, he, hr3, -⟩ := hp
  rw [he]
  have HR3 := Lib.hid hr3
  have HG4 := Lib.hid (show ∀ W4 : World, W4 = (w3.alloc (.cells #[.bool false, .int .u64 0, .string ⟨#[]⟩, .int .i64 0, .int .i64 0, .int .i64 0, .slice none 0 0, .string ⟨#[]⟩, .map none, .map none, .slice none 0 0] 102)).setRow w3.heap.size (rcells inp L0 (s1E m f.l)) → RunOk w2 m inp w3.heap.size { L0 with lab := relab L0 w3.heap.size 1 } (s1E m f.l) W4 from fun W4 e4 => by
    subst e4
    refine HR3.out.move' ⟨rfl, rfl, rfl, by simp, fun k hk => ?_⟩ (setRow_heap _ _ _ _ _ _ (heap_alloc_new w3 _))
    rw [setRow_other _ _ _ _ (by omega)]
    exact (balloc (Below.refl _ w3) _).block k hk)
  clear he hr3 m0 m1
  go_wp2_with (refine wpList_store_row rfl _ _ _ rfl w3.heap.size (rcells inp L0 (s1E m f.l)) rfl rfl _ _ (heap_alloc_new w3 _) run_info rfl (rcells_one HR3.out) ?_)
  have HR4 := Lib.hid (HG4.out _ rfl)
  clear HG4
  generalize (w3.alloc (.cells #[.bool false, .int .u64 0, .string ⟨#[]⟩, .int .i64 0, .int .i64 0, .int .i64 0, .slice none 0 0, .string ⟨#[]⟩, .map none, .map none, .slice none 0 0] 102)).setRow w3.heap.size (rcells inp L0 (s1E m f.l)) = w4 at *
  obtain ⟨R1, hR1⟩ : ∃ x, w3.heap.size = x := ⟨_, rfl⟩
  rw [hR1] at HR4 ⊢
  have HGO := Lib.hid (goOn_any dn fn w4 HRM.out HR4.out HGD.out ⟨Nat.zero_le _, Nat.le_refl _, by simp [s1E], by simp [s1E]; have := HFD.out; omega, by simp [s1E]⟩ HFD.out.2.2 HFD.out.1 HS.out.2.2.1)
  clear hR1
  go_wp2_with fail
  refine HGO.out.mono ?_
  intro e w5 hp
  obtain ⟨he, L5, hr5, -⟩ := hp
  rw [he]
  rw [show fn - (s1E m f.l).steps = fn from rfl] at hr5 ⊢
  obtain ⟨RES, hres⟩ : ∃ x, runE m inp dn fn (s1E m f.l) = x := ⟨_, rfl⟩
  rw [hres] at HX hr5 ⊢
  have HR5 := Lib.hid hr5
  have hcv := out_conv hr5
  have c6 : w5.cell? ⟨R1, 6, none⟩ = some L5.ov := rcell hr5 6
  have z2 := rfrozen hr5 2
  have c2 : w5.cell? ⟨R1, 2, none⟩ = some (.string ⟨#[]⟩) := rcell hr5 2
  have e6 := heap_setCell_same w5 R1 2 _ _ (.string (strOfNums RES.1.out)) hr5.hR
  have s0 : (w5.setCell ⟨R1, 2, none⟩ (.string (strOfNums RES.1.out))).cell? ⟨R1, 0, none⟩ = some (.bool RES.1.en) := Lib.cell_of_heap e6 0
  have s1 : (w5.setCell ⟨R1, 2, none⟩ (.string (strOfNums RES.1.out))).cell? ⟨R1, 1, none⟩ = some (.int .u64 RES.1.co) := Lib.cell_of_heap e6 1
  have s2 : (w5.setCell ⟨R1, 2, none⟩ (.string (strOfNums RES.1.out))).cell? ⟨R1, 2, none⟩ = some (.string (strOfNums RES.1.out)) := Lib.cell_of_heap e6 2
  have s3 : (w5.setCell ⟨R1, 2, none⟩ (.string (strOfNums RES.1.out))).cell? ⟨R1, 3, none⟩ = some (.int .i64 RES.1.read) := Lib.cell_of_heap e6 3
  have s4 : (w5.setCell ⟨R1, 2, none⟩ (.string (strOfNums RES.1.out))).cell? ⟨R1, 4, none⟩ = some (.int .i64 RES.1.steps) := Lib.cell_of_heap e6 4
  have s5 : (w5.setCell ⟨R1, 2, none⟩ (.string (strOfNums RES.1.out))).cell? ⟨R1, 5, none⟩ = some (.int .i64 RES.1.deep) := Lib.cell_of_heap e6 5
  have hR1 : w2.heap.size ≤ R1 := hr5.base (by rw [hr5.tR]; decide)
  have hHl : w.heap.size + 1 < w2.heap.size := (Array.getElem?_eq_some_iff.1 HB2.out.2.2).1
  have hz5 := (hr5.bel.block _ hHl).trans HB2.out.2.2
  have HZ6 := Lib.hid (show (w5.setCell ⟨R1, 2, none⟩ (.string (strOfNums RES.1.out))).heap[w.heap.size + 1]? = some (.cells (trC ⟨false, 0, 0, 0, 0, [], fun _ => 0, []⟩) 43 (0, 0)) from (heap_setCell_other w5 ⟨R1, 2, none⟩ (w.heap.size + 1) _ (by simp; omega)).trans hz5)
  have HFI := Lib.hid (show ((w5.setCell ⟨R1, 2, none⟩ (.string (strOfNums RES.1.out))).setRow (w.heap.size + 1) (trC RES.1)).heap[w.heap.size + 1]? = some (.cells (trC RES.1) 43 (0, 0)) ∧ Below w.heap.size w ((w5.setCell ⟨R1, 2, none⟩ (.string (strOfNums RES.1.out))).setRow (w.heap.size + 1) (trC RES.1)) from
    ⟨setRow_heap _ _ _ _ _ _ HZ6.out, (HB2.out.1.trans (hr5.bel.mono HB2.out.1.size)).trans ⟨rfl, rfl, rfl, by simp, fun k hk => (setRow_other _ _ k _ (by omega)).trans (heap_setCell_other w5 ⟨R1, 2, none⟩ k _ (by have := HB2.out.1.size; simp; omega))⟩⟩)
  clear he hr5 hres e6 hR1 hHl hz5
  go_wp2_with (refine wpList_store_row rfl _ _ _ rfl (w.heap.size + 1) (trC RES.1) rfl rfl _ _ HZ6.out trace_info rfl (trC_one _) ?_)
  exact bodyPost_ret (run_results _ _ (w.heap.size + 1) RES.1 RES.2 HFI.out.1 rfl rfl) rfl ⟨by rw [HX.out], HFI.out.2⟩
end Go.Proofs.Ytkalgiaapkjplaa

namespace Go.Proofs.Ytkalgiaapkjplaa
open Go.RowKit

theorem exMd_r : MdR exMd := ⟨fun f hf i hi => by
  obtain rfl : f = exFn := by simpa [exMd] using hf
  obtain rfl : i = exIn := by simpa [exFn, exBk, insF] using hi
  exact ⟨by decide, by decide⟩, fun g hg => by simp [exMd] at hg⟩
theorem ex_run : (trE exMd ⟨#[]⟩ 100 1).2 = 0 ∧ (trE exMd ⟨#[]⟩ 100 1).1.en = true ∧ (trE exMd ⟨#[]⟩ 100 1).1.co = 7 ∧ (trE exMd ⟨#[]⟩ 100 1).1.steps = 2 := by decide +kernel
set_option maxRecDepth 100000 in
set_option maxHeartbeats 4000000 in
theorem vshown_any (w : World) : Calls Try.prog 26 #[] w fun e w' => e = .returned (.bool true) ∧ Below w.heap.size w w' := by
  have HEX := Lib.hid (ex_blocks w)
  obtain ⟨⟨T, tb⟩, hT⟩ : ∃ x, trE exMd ⟨#[]⟩ 100 1 = x := ⟨_, rfl⟩
  have HR := ex_run
  rw [hT] at HR
  obtain ⟨r0, r1, r2, r3⟩ := HR
  replace r0 : tb = 0 := r0
  replace r1 : T.en = true := r1
  replace r2 : T.co = 7 := r2
  replace r3 : T.steps = 2 := r3
  subst r0
  obtain ⟨C, hC⟩ : ∃ C, trC T = C := ⟨_, rfl⟩
  have hCC : C = #[.bool true, .int .u64 7, .string (strOfNums T.out), .int .i64 T.read, .int .i64 2, .int .i64 T.deep] := by rw [← hC, trC, r1, r2, r3]; rfl
  have HRUN := Lib.hid (fun (W : World) (B : Nat) (hS : MdAt W (.slice (some ⟨B, 0, none⟩) 1 1) (.slice none 0 0) exMd) => run_any exMd ⟨#[]⟩ 100 1 (some ⟨B, 0, none⟩) none 1 1 0 0 W exMd_ok exMd_r (by decide) rfl rfl hS)
  rw [hT, trV, hC, show ((T, (0 : Int)).snd) = 0 from rfl] at HRUN
  clear hT hC
  generalize strOfNums T.out = so at hCC
  generalize T.read = rd at hCC
  generalize T.deep = dp at hCC
  subst hCC
  clear r1 r2 r3
  clear T
  go_enter Try.func26, Try.ntmps26
  go_wp2_with fail
  obtain ⟨W, hW⟩ : ∃ W, W = ((w.alloc (.cells #[.int .i64 1, .int .i64 0, .int .i64 0, .int .u64 7, .string ⟨#[]⟩, .slice none 0 0] 60)).alloc (.cells #[.int .i64 0, .slice (some ⟨w.heap.size, 0, none⟩) 1 1, .int .i64 3, .int .i64 0, .int .i64 0, .slice none 0 0, .int .i64 0, .slice none 0 0] 58)) := ⟨_, rfl⟩
  obtain ⟨hS, hb⟩ := HEX.out W hW
  have hsz : W.heap.size = w.heap.size + 1 + 1 := by rw [hW]; simp
  have hfn := heap_alloc_new W (.cells #[.string ⟨#[109, 97, 105, 110]⟩, .int .i64 2, .int .i64 0, .slice (some ⟨w.heap.size + 1, 0, none⟩) 1 1] 24)
  have hbf := balloc (Below.refl _ W) (.cells #[.string ⟨#[109, 97, 105, 110]⟩, .int .i64 2, .int .i64 0, .slice (some ⟨w.heap.size + 1, 0, none⟩) 1 1] 24)
  rw [← hW]
  rw [hsz] at hfn
  have HB := Lib.hid (bthen hb hbf)
  have HS := Lib.hid (hS.next hbf)
  have HFB := Lib.hid hfn
  have HSZ : Hid ((W.alloc (.cells #[.string ⟨#[109, 97, 105, 110]⟩, .int .i64 2, .int .i64 0, .slice (some ⟨w.heap.size + 1, 0, none⟩) 1 1] 24)).heap.size = w.heap.size + 1 + 1 + 1) := Lib.hid (by rw [World.size_alloc, hsz])
  clear hW hsz hS hb hfn hbf HEX
  generalize W.alloc (.cells #[.string ⟨#[109, 97, 105, 110]⟩, .int .i64 2, .int .i64 0, .slice (some ⟨w.heap.size + 1, 0, none⟩) 1 1] 24) = w2 at *
  have hfs := heap_alloc_new w2 (.cells #[.string ⟨#[109, 97, 105, 110]⟩, .int .i64 2, .int .i64 0, .slice (some ⟨w.heap.size + 1, 0, none⟩) 1 1] 24)
  have hbs := balloc (Below.refl _ w2) (.cells #[.string ⟨#[109, 97, 105, 110]⟩, .int .i64 2, .int .i64 0, .slice (some ⟨w.heap.size + 1, 0, none⟩) 1 1] 24)
  rw [HSZ.out] at hfs
  have HB3 := Lib.hid (bthen HB.out hbs)
  have HC := Lib.hid (HRUN.out _ (w.heap.size + 1 + 1 + 1) ⟨.inr ⟨by simp [exMd], (w.heap.size + 1 + 1 + 1), 0, 1, rfl, (Array.getElem?_eq_some_iff.1 hfs).1, fun i hi => by
    obtain rfl : i = 0 := by simpa [exMd] using hi
    exact ⟨Lib.cell_of_heap hfs 0, Lib.cell_of_heap hfs 1, Lib.cell_of_heap hfs 2, some ⟨w.heap.size + 1, 0, none⟩, 1, Lib.cell_of_heap hfs 3, HS.out.next hbs⟩⟩, .inl ⟨rfl, .inl rfl⟩⟩)
  refine HC.out.mono ?_
  rintro r w3 ⟨rfl, hb⟩
  have HB4 := Lib.hid (bthen HB3.out hb)
  clear hfs hbs hb
  go_wp2_with fail
  go_ret
  exact ⟨rfl, bthen HB4.out (balloc (Below.refl _ w3) _)⟩
end Go.Proofs.Ytkalgiaapkjplaa
