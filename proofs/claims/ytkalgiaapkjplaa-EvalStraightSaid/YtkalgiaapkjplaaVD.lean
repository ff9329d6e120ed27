/- Package eval: a run, step by step: pure; what an instruction gives, all together. Package eval: what bounds a run; all that value asks. Package eval: a run between two steps. Package eval: a value more, behind what gives it: memory. -/
import Derived.Test.YtkalgiaapkjplaaV13
import Derived.Test.YtkalgiaapkjplaaK15
namespace Go.Proofs.Ytkalgiaapkjplaa
open Go.RowKit

def U64 (x : Int) : Prop := 0 ≤ x ∧ x ≤ 18446744073709551615
def fnOf (m : Md) (n : ByteArray) : Option Fn := m.f.find? (fun f => f.s == n)
def blksOf (m : Md) (n : ByteArray) : List Bk := match fnOf m n with | some f => f.l | none => []
/-- how a block ends: s: the run, the step counted -/
def endE (s : Rs) (c : Cl) (r : List Cl) (t : Tm) : Rs :=
  if t.k = 3 then match r with
    | [] => { s with en := true, co := c.vs.getD t.a.toNat 0, cs := [] }
    | d :: r' => { s with cs := { d with vs := d.vs ++ [c.vs.getD t.a.toNat 0] } :: r' }
  else if t.k = 2 ∧ c.vs.getD t.a.toNat 0 = 0 then { s with cs := ⟨c.bs, t.e.toNat, 0, pickE c.vs t.m⟩ :: r }
  else { s with cs := ⟨c.bs, t.t.toNat, 0, pickE c.vs t.l⟩ :: r }
/-- a step of the last call, c; r: those below it -/
def tick (m : Md) (inp : ByteArray) (dp : Nat) (s : Rs) (c : Cl) (r : List Cl) : Rs × Bool :=
  match c.bs[c.k]? with
  | none => (s, false)
  | some b =>
    match b.i[c.nx]? with
    | some i =>
      if i.o = 14 then
        if r.length + 1 = dp then ({ s with steps := s.steps + 1, cs := { c with nx := c.nx + 1 } :: r }, false)
        else ({ s with steps := s.steps + 1, deep := max s.deep (r.length + 1 + 1), cs := ⟨blksOf m i.s, 0, 0, pickE c.vs i.l⟩ :: { c with nx := c.nx + 1 } :: r }, true)
      else ({ (valueE inp { s with steps := s.steps + 1 } i c.vs).2 with cs := { c with nx := c.nx + 1, vs := c.vs ++ [(valueE inp { s with steps := s.steps + 1 } i c.vs).1] } :: r }, true)
    | none => (endE { s with steps := s.steps + 1 } c r b.e, true)
/-- so many steps more, at most -/
def runE (m : Md) (inp : ByteArray) (dp : Nat) : Nat → Rs → Rs × Int
  | 0, s => match s.cs with
    | [] => (s, 0)
    | _ :: _ => (s, 12)
  | n + 1, s => match s.cs with
    | [] => (s, 0)
    | c :: r => match tick m inp dp s c r with
      | (s', true) => runE m inp dp n s'
      | (s', false) => (s', 13)
/-- a module that may be run -/
structure RightM (m : Md) : Prop where
  ok : MdOk m
  fb : ∀ f ∈ m.f, funcB f = true
  call : ∀ f ∈ m.f, ∀ i ∈ insF f, i.o = 14 → ∃ g, fnOf m i.s = some g ∧ g.l ≠ [] ∧ g.p = i.l.length
  kr : ∀ f ∈ m.f, ∀ i ∈ insF f, U64 i.k
/-- a call is right; top: it goes on -/
structure GoodC (m : Md) (top : Bool) (c : Cl) : Prop where
  fn : ∃ f ∈ m.f, c.bs = f.l
  blk : ∃ b, c.bs[c.k]? = some b ∧ c.nx ≤ b.i.length ∧ (c.vs.length : Int) + (if top then 0 else 1) = b.p + c.nx
  rng : ∀ x ∈ c.vs, U64 x
/-- a run is right -/
structure Good (m : Md) (s : Rs) : Prop where
  cs : match s.cs with | [] => True | c :: r => GoodC m true c ∧ ∀ d ∈ r, GoodC m false d
  gl : ∀ n, U64 (s.gl n)
theorem fnOf_mem {m : Md} {n : ByteArray} {g : Fn} (h : fnOf m n = some g) : g ∈ m.f ∧ g.s = n := by
  unfold fnOf at h
  refine ⟨List.mem_of_find?_eq_some h, ?_⟩
  have := List.find?_some h
  exact (jba_beq _ _).1 this
theorem insB_mem {f : Fn} {b : Bk} {i : In} (hb : b ∈ f.l) (hi : i ∈ b.i) : i ∈ insF f := List.mem_flatten.2 ⟨b.i, List.mem_map_of_mem hb, hi⟩
theorem zeroU : U64 0 := ⟨by decide, by decide⟩
theorem wrapU (x : Int) : U64 (IntKind.u64.wrap x) := by
  rw [IntKind.wrap_u64]
  exact ⟨by omega, by omega⟩
theorem bitsU (op : BinOp) (a b : Int) : U64 (bits op .u64 a b) := by
  unfold bits
  exact wrapU _
theorem reckU (o a b : Int) (ha : U64 a) : U64 (reckE o a b) := by
  unfold reckE
  split; · exact wrapU _
  split; · exact wrapU _
  split; · exact wrapU _
  split; · exact bitsU _ _ _
  split; · exact bitsU _ _ _
  split; · exact bitsU _ _ _
  split; · exact wrapU _
  split
  · unfold shrE
    obtain ⟨h0, h1⟩ := ha
    have hp : (0 : Int) < 2 ^ (b % 64).toNat := Int.pow_pos (by decide)
    exact ⟨Int.ediv_nonneg h0 (by omega), Int.le_trans (Int.ediv_le_self _ h0) h1⟩
  split
  · unfold lessE
    split <;> exact ⟨by decide, by decide⟩
  split
  · unfold eqE
    split <;> exact ⟨by decide, by decide⟩
  exact ⟨by decide, by decide⟩
theorem getU {l : List Int} (h : ∀ x ∈ l, U64 x) (n : Nat) : U64 (l.getD n 0) := by
  rw [List.getD_eq_getElem?_getD]
  by_cases hn : n < l.length
  · rw [List.getElem?_eq_getElem hn]
    exact h _ (List.getElem_mem hn)
  · rw [List.getElem?_eq_none (by omega)]
    exact ⟨by decide, by decide⟩
theorem pickU {vs l : List Int} (h : ∀ x ∈ vs, U64 x) : ∀ x ∈ pickE vs l, U64 x := by
  intro x hx
  obtain ⟨v, _, rfl⟩ := List.mem_map.1 hx
  exact getU h _
theorem valueU {inp : ByteArray} {s : Rs} {i : In} {vs : List Int} (hv : ∀ x ∈ vs, U64 x) (hg : ∀ n, U64 (s.gl n)) (hk : U64 i.k) : U64 (valueE inp s i vs).1 ∧ (∀ n, U64 ((valueE inp s i vs).2.gl n)) ∧ (valueE inp s i vs).2.cs = s.cs := by
  unfold valueE
  split; · exact ⟨hk, hg, rfl⟩
  split; · exact ⟨hg _, hg, rfl⟩
  split
  · refine ⟨zeroU, fun n => ?_, rfl⟩
    simp only
    split
    · exact getU hv _
    · exact hg n
  split
  · unfold readE byteE
    refine ⟨?_, ?_, ?_⟩
    · simp only
      split
      · rename_i h
        have := UInt8.toNat_lt inp[s.read]
        exact ⟨by omega, by omega⟩
      · exact ⟨by decide, by decide⟩
    · simp only
      split <;> exact hg
    · simp only
      split <;> rfl
  split
  · exact ⟨zeroU, hg, rfl⟩
  exact ⟨reckU _ _ _ (getU hv _), hg, rfl⟩
/-- what is known of the call that goes on -/
theorem good_top {m : Md} {c : Cl} (hm : RightM m) {tp : Bool} (h : GoodC m tp c) : ∃ f b, f ∈ m.f ∧ c.bs = f.l ∧ c.bs[c.k]? = some b ∧ b ∈ f.l ∧ c.nx ≤ b.i.length ∧ (c.vs.length : Int) + (if tp then 0 else 1) = b.p + c.nx ∧ 0 ≤ b.p ∧ b.p ≤ 6 ∧ b.i.length ≤ 32 ∧
    endB c.bs (b.p + b.i.length) b.e = true ∧ ∀ (j : Nat) (hj : j < b.i.length), instB (b.p + j) b.i[j] = true := by
  obtain ⟨f, hf, hbs⟩ := h.fn
  obtain ⟨b, hb, hn, hl⟩ := h.blk
  have hbm : b ∈ f.l := by rw [← hbs]; exact List.mem_of_getElem? hb
  obtain ⟨p0, p6, i32, he, hi⟩ := block_parts ((func_parts (hm.fb f hf)).2.1 b hbm)
  rw [← hbs] at he
  exact ⟨f, b, hf, hbs, hb, hbm, hn, hl, p0, p6, i32, he, fun j hj => instsB_at _ _ hi j hj⟩
theorem goes_to {m : Md} {c : Cl} {n to_ : Int} {l : List Int} (hm : RightM m) {tp : Bool} (h : GoodC m tp c) (hn : n = c.vs.length) (hg : goesB c.bs n to_ l = true) : ToOk c to_ l := by
  obtain ⟨i, rfl, hi, hl, ha⟩ := goes_parts hg
  obtain ⟨f, hf, hbs⟩ := h.fn
  have hbm : c.bs[i] ∈ f.l := by rw [← hbs]; exact List.getElem_mem hi
  obtain ⟨p0, p6, i32, -, -⟩ := block_parts ((func_parts (hm.fb f hf)).2.1 _ hbm)
  refine ⟨i, (c.bs[i].p).toNat + c.bs[i].i.length, c.bs[i], rfl, List.getElem?_eq_getElem hi, by omega, by omega, by omega, fun x hx => ?_, by omega⟩
  obtain ⟨j, hj, rfl⟩ := List.getElem_of_mem hx
  have := among_at ha j hj
  rw [hn] at this
  exact this
theorem good_new {m : Md} {c : Cl} {to_ : Int} {l : List Int} {tp : Bool} (h : GoodC m tp c) {n : Int} (hg : goesB c.bs n to_ l = true) : GoodC m true ⟨c.bs, to_.toNat, 0, pickE c.vs l⟩ := by
  obtain ⟨i, rfl, hi, hl, ha⟩ := goes_parts hg
  refine ⟨h.fn, ⟨c.bs[i], by simp [List.getElem?_eq_getElem hi], Nat.zero_le _, ?_⟩, pickU h.rng⟩
  simp only [if_true, pick_length]
  omega
theorem good_down {m : Md} {d : Cl} {v : Int} (h : GoodC m false d) (hv : U64 v) : GoodC m true { d with vs := d.vs ++ [v] } := by
  obtain ⟨b, hb, hn, hl⟩ := h.blk
  refine ⟨h.fn, ⟨b, hb, hn, ?_⟩, fun x hx => ?_⟩
  · simp only [List.length_append, List.length_singleton, if_true]
    simp only [Bool.false_eq_true, if_false] at hl
    omega
  · rcases List.mem_append.1 hx with hx | hx
    · exact h.rng x hx
    · rw [List.mem_singleton.1 hx]; exact hv
theorem good_end {m : Md} {s : Rs} {c : Cl} {r : List Cl} {t : Tm} {n : Int} (hc : GoodC m true c) (hr : ∀ d ∈ r, GoodC m false d) (hg : ∀ n, U64 (s.gl n)) (he : endB c.bs n t = true) : Good m (endE s c r t) := by
  unfold endE
  rcases end_cases he with ⟨h1, h2⟩ | ⟨h1, h2, h3, h4⟩ | ⟨h1, h2⟩
  · rw [if_neg (by omega), if_neg (by omega)]
    exact ⟨⟨good_new hc h2, hr⟩, hg⟩
  · rw [if_neg (by omega)]
    split
    · exact ⟨⟨good_new hc h4, hr⟩, hg⟩
    · exact ⟨⟨good_new hc h3, hr⟩, hg⟩
  · rw [if_pos h1]
    cases r with
    | nil => exact ⟨trivial, hg⟩
    | cons d r' => exact ⟨⟨good_down (hr d (by simp)) (getU hc.rng _), fun x hx => hr x (by simp [hx])⟩, hg⟩
theorem good_call {m : Md} {i : In} (hm : RightM m) {f : Fn} (hf : f ∈ m.f) (hi : i ∈ insF f) (ho : i.o = 14) {vs : List Int} (hv : ∀ x ∈ vs, U64 x) : GoodC m true ⟨blksOf m i.s, 0, 0, pickE vs i.l⟩ := by
  obtain ⟨g, hg, hne, hp⟩ := hm.call f hf i hi ho
  have e : blksOf m i.s = g.l := by unfold blksOf; rw [hg]
  have hl : 0 < g.l.length := List.length_pos_iff.2 hne
  rw [e]
  refine ⟨⟨g, (fnOf_mem hg).1, rfl⟩, ⟨g.l[0], List.getElem?_eq_getElem hl, Nat.zero_le _, ?_⟩, pickU hv⟩
  have := (func_parts (hm.fb g (fnOf_mem hg).1)).2.2 hl
  simp only [if_true, pick_length]
  omega
theorem good_wait {m : Md} {c : Cl} (h : GoodC m true c) {b : Bk} (hb : c.bs[c.k]? = some b) (hn : c.nx < b.i.length) : GoodC m false { c with nx := c.nx + 1 } := by
  obtain ⟨b', hb', hn', hl⟩ := h.blk
  rw [hb] at hb'
  cases hb'
  refine ⟨h.fn, ⟨b, hb, hn, ?_⟩, h.rng⟩
  simp only [Bool.false_eq_true, if_false]
  simp only [if_true] at hl
  omega
theorem good_more {m : Md} {c : Cl} (h : GoodC m true c) {b : Bk} (hb : c.bs[c.k]? = some b) (hn : c.nx < b.i.length) {v : Int} (hv : U64 v) : GoodC m true { c with nx := c.nx + 1, vs := c.vs ++ [v] } := good_down (good_wait h hb hn) hv
/-- a step leaves a right run right -/
theorem tick_good {m : Md} {inp : ByteArray} {dp : Nat} {s : Rs} {c : Cl} {r : List Cl} (hm : RightM m) (hs : s.cs = c :: r) (h : Good m s) (hok : (tick m inp dp s c r).2 = true) : Good m (tick m inp dp s c r).1 := by
  have hcs := h.cs
  rw [hs] at hcs
  obtain ⟨hc, hr⟩ := hcs
  obtain ⟨f, b, hf, hbs, hb, hbm, hn, hl, p0, p6, i32, he, hi⟩ := good_top hm hc
  unfold tick at hok ⊢
  rw [hb] at hok ⊢
  simp only at hok ⊢
  by_cases hx : c.nx < b.i.length
  · rw [List.getElem?_eq_getElem hx] at hok ⊢
    simp only at hok ⊢
    have him := insB_mem hbm (List.getElem_mem hx)
    by_cases ho : b.i[c.nx].o = 14
    · rw [if_pos ho] at hok ⊢
      by_cases hd : r.length + 1 = dp
      · rw [if_pos hd] at hok
        cases hok
      · rw [if_neg hd]
        exact ⟨⟨good_call hm hf him ho hc.rng, fun d hd' => by
          rcases List.mem_cons.1 hd' with rfl | hd'
          · exact good_wait hc hb hx
          · exact hr d hd'⟩, h.gl⟩
    · rw [if_neg ho]
      obtain ⟨v1, v2, -⟩ := valueU (inp := inp) (s := { s with steps := s.steps + 1 }) (i := b.i[c.nx]) hc.rng h.gl (hm.kr f hf _ him)
      exact ⟨⟨good_more hc hb hx v1, hr⟩, v2⟩
  · rw [List.getElem?_eq_none (by omega)]
    exact good_end hc hr h.gl he
end Go.Proofs.Ytkalgiaapkjplaa

namespace Go.Proofs.Ytkalgiaapkjplaa
open Go.RowKit

/-- within bounds -/
structure Bnd (inp : ByteArray) (dp fuel : Nat) (s : Rs) : Prop where
  rd : s.read ≤ inp.size
  ou : s.out.length ≤ s.steps
  de : s.deep ≤ 64
  cl : s.cs.length ≤ dp
  st : s.steps ≤ fuel
theorem value_bnd {inp : ByteArray} {s : Rs} {i : In} {vs : List Int} (hr : s.read ≤ inp.size) : (valueE inp s i vs).2.read ≤ inp.size ∧ (valueE inp s i vs).2.out.length ≤ s.out.length + 1 ∧ (valueE inp s i vs).2.deep = s.deep ∧ (valueE inp s i vs).2.steps = s.steps := by
  unfold valueE
  split; · exact ⟨hr, by simp, rfl, rfl⟩
  split; · exact ⟨hr, by simp, rfl, rfl⟩
  split; · exact ⟨hr, by simp, rfl, rfl⟩
  split
  · unfold readE
    simp only
    split
    · exact ⟨by simp only; omega, by simp, rfl, rfl⟩
    · exact ⟨hr, by simp, rfl, rfl⟩
  split; · exact ⟨hr, by simp, rfl, rfl⟩
  exact ⟨hr, by simp, rfl, rfl⟩
theorem end_bnd (s : Rs) (c : Cl) (r : List Cl) (t : Tm) : (endE s c r t).read = s.read ∧ (endE s c r t).out = s.out ∧ (endE s c r t).deep = s.deep ∧ (endE s c r t).steps = s.steps ∧ (endE s c r t).cs.length ≤ r.length + 1 := by
  unfold endE
  split
  · cases r <;> simp
  · split <;> simp
theorem tick_bnd {m : Md} {inp : ByteArray} {dp fuel : Nat} {s : Rs} {c : Cl} {r : List Cl} (hs : s.cs = c :: r) (h : Bnd inp dp fuel s) (hd : dp ≤ 64) (hf : s.steps < fuel) (hok : (tick m inp dp s c r).2 = true) :
    Bnd inp dp fuel (tick m inp dp s c r).1 ∧ (tick m inp dp s c r).1.steps = s.steps + 1 := by
  have hcl := h.cl
  rw [hs, List.length_cons] at hcl
  obtain ⟨h1, h2, h3, -, h5⟩ := h
  unfold tick at hok ⊢
  split at hok
  · cases hok
  · rename_i b _
    simp only
    split at hok
    · rename_i i _
      by_cases ho : i.o = 14
      · rw [if_pos ho] at hok ⊢
        by_cases hd' : r.length + 1 = dp
        · rw [if_pos hd'] at hok; cases hok
        · rw [if_neg hd']
          exact ⟨⟨h1, by simp only; omega, by simp only; omega, by simp only [List.length_cons]; omega, by simp only; omega⟩, rfl⟩
      · rw [if_neg ho]
        obtain ⟨a, b', c', d⟩ := value_bnd (inp := inp) (s := { s with steps := s.steps + 1 }) (i := i) (vs := c.vs) h1
        simp only at b' c' d
        exact ⟨⟨a, by simp only; omega, by simp only; omega, by simp only [List.length_cons]; omega, by simp only; omega⟩, d⟩
    · simp only
      obtain ⟨a, b', c', d, e⟩ := end_bnd { s with steps := s.steps + 1 } c r b.e
      simp only at a b' c' d
      exact ⟨⟨by omega, by rw [b', d]; omega, by omega, by omega, by omega⟩, d⟩
/-- what value asks of a right instruction -/
theorem value_any {nv : Nat} {W0 : World} {m : Md} {inp : ByteArray} {R : Nat} {L : Lay} {s : Rs} (w : World) (h : RunOk W0 m inp R L s w) (i : In) (hi : instB nv i = true) (ho : i.o ≠ 14) (hnm : i.s.size < 9223372036854775808) (vA : Value) (vs : List Int) (g cap : Nat) (hnv : vs.length = nv)
    (hv : w.ownsRow 0 41 1 (.slice (some ⟨g, 0, none⟩) nv cap) nv (u64s vs)) (hin : inp.size < 9223372036854775808) (hr : s.read ≤ inp.size) (hu : ∀ x ∈ vs, U64 x) (hgl : L.lab g ≠ 5 ∧ L.lab g ≠ 1) (hno : s.out.length ≤ 100000) (hgn : L.gn < 1000 + s.steps) (hst : s.steps ≤ 100000) :
    Calls Try.prog 90 #[.pointer (some ⟨R, 0, none⟩), inV i vA, .slice (some ⟨g, 0, none⟩) nv cap] w (ValuePost W0 m inp R L (valueE inp s i vs) w) := by
  obtain ⟨o, a, b, k, nm, l⟩ := i
  have hp := inst_parts hi
  have ho16 : 1 ≤ o ∧ o ≤ 16 := by
    rw [inst_chain] at hi
    simp only [Bool.and_eq_true, decide_eq_true_eq] at hi
    exact ⟨hi.1.1.1.1.1, hi.1.1.1.1.2⟩
  have hal := List.all_eq_true.1 hp.2
  simp only at ho hnm
  by_cases h1 : o = 1
  · subst h1; exact value_1 w h a b k nm l vA vs g nv cap
  by_cases h12 : o = 12
  · subst h12; exact value_12 w h a b k nm l vA vs g nv cap hnm
  by_cases h13 : o = 13
  · subst h13
    have ha := hal a (by simp [usesI, usesL])
    simp only [Bool.and_eq_true, decide_eq_true_eq] at ha
    obtain ⟨an, rfl⟩ := Int.eq_ofNat_of_zero_le ha.1
    exact value_13 w h an b k nm l vA vs g nv cap hnm hnv hv an rfl (by omega) hgn hst
  by_cases h15 : o = 15
  · subst h15; exact value_15 w h a b k nm l vA vs g nv cap hin hr
  by_cases h16 : o = 16
  · subst h16
    have ha := hal a (by simp [usesI, usesL])
    simp only [Bool.and_eq_true, decide_eq_true_eq] at ha
    obtain ⟨an, rfl⟩ := Int.eq_ofNat_of_zero_le ha.1
    exact value_16 w h an b k nm l vA vs g nv cap hnv hv an rfl (by omega) hgl hno
  have hb2 : 2 ≤ o ∧ o ≤ 11 := by omega
  have ha := hal a (by simp [usesI, usesL, hb2])
  have hb := hal b (by simp [usesI, usesL, hb2])
  simp only [Bool.and_eq_true, decide_eq_true_eq] at ha hb
  obtain ⟨an, rfl⟩ := Int.eq_ofNat_of_zero_le ha.1
  obtain ⟨bn, rfl⟩ := Int.eq_ofNat_of_zero_le hb.1
  exact value_reck w h o an bn k nm l vA vs g nv cap hnv hv an bn rfl rfl (by omega) (by omega) hu hb2
end Go.Proofs.Ytkalgiaapkjplaa

namespace Go.Proofs.Ytkalgiaapkjplaa
open Go.RowKit

theorem step_append_fits {P : Program} {w : World} {ops : Array Oper} {o : Oper} {a : Act} {K : Act → World → Prop} {Q : Exit → Act → World → Prop} {E : Prop} (hgd : o.guard = none) (s x : Operand) (t : TypeId)
    (ho : o.op = .call { callee := .builtin .append, args := #[s, x], argTypes := #[t, t] })
    (base : Nat) (e : TypeId) (i : TypeInfo) (size : Nat) (ht : P.underlying t = some (.slice e)) (hi : P.info? e = some i) (hsize : i.size = size)
    (g n cap : Nat) (xs : List Value) (hs : a.eval s = .slice (some ⟨g, 0, none⟩) n cap) (hown : w.ownsRow base e size (.slice (some ⟨g, 0, none⟩) n cap) n xs)
    (ad : Addr) (m c : Nat) (news : List Value) (hx : a.eval x = .slice (some ad) m c) (hl : news.length = m * size) (hnews : ∀ j u, news[j]? = some u → w.cell? (ad.add j) = some u) (h1 : ∀ u ∈ news, u.oneCell' = true) (hroom : n + m ≤ cap)
    (h : ∀ w', w'.ownsRow base e size (.slice (some ⟨g, 0, none⟩) (n + m) cap) (n + m) (xs ++ news) → w.grownBy w' (some g) → K (a.put o.dst (.slice (some ⟨g, 0, none⟩) (n + m) cap)) w') :
    if Region.wanted o (yielded ops a.tmps) = true then Oper.wp P o a w K Q else E := by
  have hw : Region.wanted o (yielded ops a.tmps) = true := by simp [Region.wanted, hgd]
  rw [if_pos hw]
  obtain ⟨w', hrun, r1, r2⟩ := run_append_fits (P := P) w base t o.type e i size ht hi hsize g n cap xs hown ad m c news hl hnews h1 hroom
  unfold Oper.wp execOp
  simp only [ho, resolve, invoke, builtin, Sem.run_bind, Sem.run_pure, Result.andThen_ok, List.map_toArray, List.map_cons, List.map_nil, hs, hx, hrun]
  exact h w' r1 r2
theorem value_cs (inp : ByteArray) (s : Rs) (q : List Cl) (i : In) (vs : List Int) : valueE inp { s with cs := q } i vs = ((valueE inp s i vs).1, { (valueE inp s i vs).2 with cs := q }) := by
  unfold valueE
  split; · rfl
  split; · rfl
  split; · rfl
  split
  · unfold readE
    simp only
    split <;> rfl
  split <;> rfl
/-- a run between two steps -/
structure Runs (W0 : World) (m : Md) (inp : ByteArray) (R B3 B4 dp fuel : Nat) (RES : Rs × Int) (L0 : Lay) (w : World) (L : Lay) (s : Rs) (W : World) : Prop where
  ok : RunOk W0 m inp R L s W
  good : Good m s
  bnd : Bnd inp dp fuel s
  l3 : L.lab B3 = 0
  l4 : L.lab B4 = 0
  c3 : W.cell? ⟨B3, 0, none⟩ = some (.pointer (some ⟨R, 0, none⟩))
  c4 : W.cell? ⟨B4, 0, none⟩ = some (.int .i64 fuel)
  fr : Fr L0 w W L
  res : runE m inp dp (fuel - s.steps) s = RES
section
variable {W0 : World} {m : Md} {inp : ByteArray} {R B3 B4 dp fuel : Nat} {RES : Rs × Int} {L0 : Lay} {w : World} {L L' : Lay} {s : Rs} {W W' : World}
theorem Runs.quiet (h : Runs W0 m inp R B3 B4 dp fuel RES L0 w L s W) (hb : Below W.heap.size W W') : Runs W0 m inp R B3 B4 dp fuel RES L0 w L s W' :=
  { ok := h.ok.quiet hb, good := h.good, bnd := h.bnd, l3 := h.l3, l4 := h.l4, c3 := (cellNext (World.block_lt_of_cell? W _ h.c3) hb 0).trans h.c3, c4 := (cellNext (World.block_lt_of_cell? W _ h.c4) hb 0).trans h.c4, fr := h.fr.trans (fr_quiet hb), res := h.res }
theorem fr_cell {a : Addr} {v : Value} (hf : Fr L W W' L') (hl : L.lab a.block = 0) (hc : W.cell? a = some v) : W'.cell? a = some v :=
  (World.cell?_of_block (hf.2 a.block (World.block_lt_of_cell? W _ hc) hl).1).trans hc
/-- a step on -/
theorem Runs.next {c : Cl} {r : List Cl} (h : Runs W0 m inp R B3 B4 dp fuel RES L0 w L s W) (hm : RightM m) (hd : dp ≤ 64) (hs : s.cs = c :: r) (hf : s.steps < fuel) (ht : (tick m inp dp s c r).2 = true) (hok : RunOk W0 m inp R L' (tick m inp dp s c r).1 W') (hfr : Fr L W W' L') :
    Runs W0 m inp R B3 B4 dp fuel RES L0 w L' (tick m inp dp s c r).1 W' ∧ (tick m inp dp s c r).1.steps = s.steps + 1 := by
  obtain ⟨hb, hst⟩ := tick_bnd hs h.bnd hd hf ht
  refine ⟨{ ok := hok, good := tick_good hm hs h.good ht, bnd := hb, l3 := (hfr.2 B3 (World.block_lt_of_cell? W _ h.c3) h.l3).2, l4 := (hfr.2 B4 (World.block_lt_of_cell? W _ h.c4) h.l4).2, c3 := fr_cell (a := ⟨B3, 0, none⟩) hfr h.l3 h.c3, c4 := fr_cell (a := ⟨B4, 0, none⟩) hfr h.l4 h.c4, fr := h.fr.trans hfr, res := ?_ }, hst⟩
  rw [hst, ← h.res]
  obtain ⟨n, hn⟩ : ∃ n, fuel - s.steps = n + 1 := ⟨fuel - s.steps - 1, by omega⟩
  rw [hn, show fuel - (s.steps + 1) = n by omega]
  conv => rhs; unfold runE
  rw [hs]
  simp only
  obtain ⟨q, hq⟩ : ∃ q, tick m inp dp s c r = q := ⟨_, rfl⟩
  rw [hq] at ht ⊢
  obtain ⟨q1, q2⟩ := q
  simp only at ht
  subst ht
  rfl
/-- no fuel -/
theorem Runs.spent {c : Cl} {r : List Cl} (h : Runs W0 m inp R B3 B4 dp fuel RES L0 w L s W) (hs : s.cs = c :: r) (hf : s.steps = fuel) : RES = (s, 12) := by
  rw [← h.res, hf, Nat.sub_self]
  unfold runE
  rw [hs]
/-- calls too deep -/
theorem Runs.deep {c : Cl} {r : List Cl} (h : Runs W0 m inp R B3 B4 dp fuel RES L0 w L s W) (hs : s.cs = c :: r) (hf : s.steps < fuel) (ht : (tick m inp dp s c r).2 = false) : RES = ((tick m inp dp s c r).1, 13) := by
  rw [← h.res]
  obtain ⟨n, hn⟩ : ∃ n, fuel - s.steps = n + 1 := ⟨fuel - s.steps - 1, by omega⟩
  rw [hn]
  unfold runE
  rw [hs]
  simp only
  obtain ⟨q, hq⟩ : ∃ q, tick m inp dp s c r = q := ⟨_, rfl⟩
  rw [hq] at ht ⊢
  obtain ⟨q1, q2⟩ := q
  simp only at ht
  subst ht
  rfl
end
/-- the end of a block, whatever it is -/
theorem end_any {W0 : World} {m : Md} {inp : ByteArray} {R : Nat} {L : Lay} {s : Rs} (w : World) (hm : RightM m) (h : RunOk W0 m inp R L s w) (pre : List Gc) (y : Gc) (hgs : L.gs = pre ++ [y]) (og ocap : Nat) (hopv : L.opv = .slice (some ⟨og, 0, none⟩) (pre.length + 1) ocap) (hp : pre.length ≤ 64)
    (hy : GoodC m true y.c) (hr : ∀ d ∈ pre, GoodC m false d.c) (t : Tm) (Al Am : Option Addr) (nl cl nm cm : Nat) (hnl : t.l.length = nl) (hnm : t.m.length = nm) (hl : Ints w (.slice Al nl cl) t.l) (hmm : Ints w (.slice Am nm cm) t.m) (he : endB y.c.bs y.c.vs.length t = true) :
    Calls Try.prog 92 #[.pointer (some ⟨R, 0, none⟩), .pointer (some ⟨og, pre.length * 4, none⟩), .agg #[.int .i64 t.k, .int .i64 t.a, .int .i64 t.t, .slice Al nl cl, .int .i64 t.e, .slice Am nm cm]] w (CallPost W0 m inp R L (endE s y.c (pre.map (·.c)).reverse t) w) := by
  obtain ⟨k, a, t', l, e, m'⟩ := t
  simp only at hnl hnm hl hmm
  have hval : ∀ {x : Int}, amongB (y.c.vs.length : Int) [x] = true → ∃ an : Nat, x = an ∧ an < y.c.vs.length := fun {x} h => by
    have := among_at h 0 (by simp)
    simp only [List.getElem_cons_zero] at this
    obtain ⟨an, rfl⟩ := Int.eq_ofNat_of_zero_le this.1
    exact ⟨an, rfl, by omega⟩
  rcases end_cases he with ⟨h1, h2⟩ | ⟨h1, h2, h3, h4⟩ | ⟨h1, h2⟩
  · simp only at h1 h2
    subst h1
    refine end_jump w h pre y hgs og ocap hopv a t' e Al Am nl cl nm cm l hnl hl (goes_to hm hy rfl h2) _ ?_
    unfold endE
    rw [if_neg (by simp only; decide), if_neg (by simp only; omega)]
  · simp only at h1 h2 h3 h4
    subst h1
    obtain ⟨an, rfl, han⟩ := hval h2
    by_cases hz : y.c.vs.getD an 0 = 0
    · refine end_else w h pre y hgs og ocap hopv an t' e Al Am nl cl nm cm an rfl han hz m' hnm hmm (goes_to hm hy rfl h4) _ ?_
      unfold endE
      rw [if_neg (by simp only; decide), if_pos (by simp only; exact ⟨trivial, hz⟩)]
    · refine end_then w h pre y hgs og ocap hopv an t' e Al Am nl cl nm cm an rfl han hz l hnl hl (goes_to hm hy rfl h3) _ ?_
      unfold endE
      rw [if_neg (by simp only; decide), if_neg (by simp only; exact fun q => hz q.2)]
  · simp only at h1 h2
    subst h1
    obtain ⟨an, rfl, han⟩ := hval h2
    refine end_ret w h pre y hgs og ocap hopv an t' e Al Am nl cl nm cm an rfl han _ (fun u hu => ?_)
    unfold endE
    rw [if_pos (by rfl)]
    rcases List.eq_nil_or_concat pre with e0 | ⟨pre', z, e0⟩
    · subst e0
      exact give_last u hu y (by simpa using hgs) _
    · have e0' : pre = pre' ++ [z] := by rw [e0]; simp
      subst e0'
      have hz := hr z (by simp)
      obtain ⟨f, b, -, -, hb, -, hn, hlz, p0, p6, i32, -, -⟩ := good_top hm hz
      obtain ⟨-, b', hb', hcap⟩ := h.hb z (by rw [hgs]; simp)
      rw [hb] at hb'
      cases hb'
      simp only [Bool.false_eq_true, if_false] at hlz
      have := give_more u hu pre' z y hgs (by simp at hp; omega) (by omega) (by omega) (y.c.vs.getD an 0)
      simpa [vsG] using this
end Go.Proofs.Ytkalgiaapkjplaa

namespace Go.Proofs.Ytkalgiaapkjplaa
open Go.RowKit

/-- behind value: w'; one more value of the last call, y9 -/
structure ValPath (W0 : World) (m : Md) (inp : ByteArray) (R : Nat) (L9 : Lay) (pre : List Gc) (y9 : Gc) (og ocap : Nat) (v : Int) (sx : Rs) (u w' : World) : Prop where
  c3 : w'.cell? ⟨og, pre.length * 4 + 3, none⟩ = some (.slice (some ⟨y9.g, 0, none⟩) y9.c.vs.length y9.cap)
  c3a : (w'.alloc (.cells #[.int .u64 v] 41)).cell? ⟨og, pre.length * 4 + 3, none⟩ = some (.slice (some ⟨y9.g, 0, none⟩) y9.c.vs.length y9.cap)
  own : (w'.alloc (.cells #[.int .u64 v] 41)).ownsRow 0 41 1 (.slice (some ⟨y9.g, 0, none⟩) y9.c.vs.length y9.cap) y9.c.vs.length (u64s y9.c.vs)
  same : ∀ k, k < u.heap.size → L9.lab k = 0 → w'.heap[k]? = u.heap[k]? ∧ (w'.alloc (.cells #[.int .u64 v] 41)).heap[k]? = u.heap[k]?
  last : ∀ w1 : World, w1.ownsRow 0 41 1 (.slice (some ⟨y9.g, 0, none⟩) (y9.c.vs.length + 1) y9.cap) (y9.c.vs.length + 1) (u64s y9.c.vs ++ [.int .u64 v]) → (w'.alloc (.cells #[.int .u64 v] 41)).grownBy w1 (some y9.g) →
    w1.frozen? ⟨og, pre.length * 4 + 3, none⟩ = false ∧ (∃ z, w1.cell? ⟨og, pre.length * 4 + 3, none⟩ = some z) ∧ (∀ k, k < u.heap.size → L9.lab k = 0 → w1.heap[k]? = u.heap[k]?) ∧
    ∃ L'', RunOk W0 m inp R L'' { sx with cs := (vsG y9 v).c :: (pre.map (·.c)).reverse } (w1.setCell ⟨og, pre.length * 4 + 3, none⟩ (.slice (some ⟨y9.g, 0, none⟩) (y9.c.vs.length + 1) y9.cap)) ∧
      Fr L9 u (w1.setCell ⟨og, pre.length * 4 + 3, none⟩ (.slice (some ⟨y9.g, 0, none⟩) (y9.c.vs.length + 1) y9.cap)) L'' ∧ L''.gs = pre ++ [vsG y9 v] ∧ L''.opv = .slice (some ⟨og, 0, none⟩) (pre.length + 1) ocap
theorem val_path {W0 : World} {m : Md} {inp : ByteArray} {R : Nat} {L9 : Lay} {pre : List Gc} {y9 : Gc} {og ocap : Nat} {v : Int} {sx : Rs} {u w' : World} {e : Ending} (hp : ValuePost W0 m inp R L9 (v, sx) u e w') (hgs : L9.gs = pre ++ [y9]) (hopv : L9.opv = .slice (some ⟨og, 0, none⟩) (pre.length + 1) ocap) :
    ValPath W0 m inp R L9 pre y9 og ocap v sx u w' := by
  obtain ⟨-, L', hr, hf, hgs', hopv'⟩ := hp
  simp only at hr
  have hgs1 : L'.gs = pre ++ [y9] := hgs'.trans hgs
  have hopv1 : L'.opv = .slice (some ⟨og, 0, none⟩) (pre.length + 1) ocap := hopv'.trans hopv
  obtain ⟨og', ocap', e', hl4, hogl, -, -, hop, hcs, hv, hl6, hgl⟩ := top_at hr hgs1
  rw [hopv1] at e'
  cases e'
  obtain ⟨q1, q2⟩ := hcs 3 (by decide)
  have q1 : w'.cell? ⟨og, pre.length * 4 + 3, none⟩ = some (.slice (some ⟨y9.g, 0, none⟩) y9.c.vs.length y9.cap) := q1
  have hsz := hf.1
  have al : ∀ k, k < w'.heap.size → (w'.alloc (.cells #[.int .u64 v] 41)).heap[k]? = w'.heap[k]? := fun k hk => (balloc (Below.refl _ w') _).block k hk
  refine { c3 := q1, c3a := (cellNext hogl (balloc (Below.refl _ w') _) _).trans q1, own := hv.alloc _, same := fun k hk h0 => ⟨(hf.2 k hk h0).1, (al k (by omega)).trans (hf.2 k hk h0).1⟩, last := fun w1 h1 g1 => ?_ }
  obtain ⟨a, b⟩ := top_val hr hgs1 hopv1 g1 h1
  have hne : og ≠ y9.g := fun e => by rw [← e, hl4] at hl6; omega
  have hb : w1.heap[og]? = w'.heap[og]? := (g1.block og (by simp; omega) (by simpa using hne)).trans (al og hogl)
  refine ⟨?_, ⟨_, (World.cell?_of_block (w := w') (a := ⟨og, pre.length * 4 + 3, none⟩) hb).trans q1⟩, fun k hk h0 => ?_, _, a, hf.trans b, rfl, hopv1⟩
  · rw [World.frozen?_of_block (w := w') (a := ⟨og, pre.length * 4 + 3, none⟩) hb]; exact q2
  · have hk' := (hf.2 k hk h0)
    refine (g1.block k (by simp; omega) (fun e => ?_)).trans ((al k (by omega)).trans hk'.1)
    cases e
    rw [hk'.2] at hl6
    omega
end Go.Proofs.Ytkalgiaapkjplaa
