/- YtpmmjkiclngpmaaGreatDoorB22 -/
import Derived.Test.YtpmmjkiclngpmaaGreatDoorB21
import Derived.Test.YtpmmjkiclngpmaaGreatDoorB10
set_option maxRecDepth 100000
set_option linter.unusedSimpArgs false
set_option linter.unusedVariables false
set_option maxHeartbeats 12800000
namespace Go.Proofs.YtpmmjkiclngpmaaGreatDoor
open Go.RowKit
def Leafy : Nat → Ex → Prop
  | 0,_ => True
  | m + 1,e => (e.kind ≤ 2 → e.parts = []) ∧ ∀ x ∈ e.parts,Leafy m x
theorem Shp.mono {known : List UInt8 → Prop} {m : Nat} {e : Ex} (h : Shp known m e) {m' : Nat} (hm : m ≤ m') : Shp known m' e := by
  induction m generalizing e m' with
  | zero => exact absurd h (by simp [Shp])
  | succ m ih =>
    obtain ⟨k,rfl⟩ : ∃ k,m' = k + 1 := ⟨m' - 1,by omega⟩
    obtain ⟨a,b,c,d,f,g⟩ := h
    exact ⟨a,b,c,d,f,fun x hx => ih (g x hx) (by omega)⟩
def Armed : Nat → Ex → Prop
  | 0,_ => True
  | m + 1,e => (7 ≤ e.kind ∧ e.kind < 13 → e.parts.length = 2) ∧ (13 ≤ e.kind → e.parts.length = 1) ∧ (0 ≤ e.value ∧ e.value < 100000000000) ∧ ∀ x ∈ e.parts,Armed m x
structure TOk (n : Nat) (e : Ex) : Prop where
  shp : Shp (fun _ => True) n e
  siz : ∀ m,sz m e ≤ n
  leaf : ∀ m,Leafy m e
  arm : ∀ m,Armed m e
theorem TOk.mono {n n' : Nat} {e : Ex} (h : TOk n e) (hn : n ≤ n') : TOk n' e := ⟨h.shp.mono hn,fun m => Nat.le_trans (h.siz m) hn,h.leaf,h.arm⟩
theorem TOk.node {n : Nat} {k p : Nat} {nm : List UInt8} {v : Int} {l : List Ex} (hk : k < 15) (h4 : k = 4 → l.length = 1) (h5 : k = 5 → l.length = 3) (h6 : k = 6 → l.length = 2) (hl : k ≤ 2 → l = []) (h7 : 7 ≤ k ∧ k < 13 → l.length = 2) (h13 : 13 ≤ k → l.length = 1) (hv : 0 ≤ v ∧ v < 100000000000)
    (hp : ∀ x ∈ l,TOk n x) (hs : ∀ m,szL (sz m) l ≤ n) : TOk (n + 1) ⟨k,p,nm,v,l⟩ where
  shp := ⟨hk,h4,h5,h6,fun _ => trivial,fun x hx => (hp x hx).shp⟩
  siz m := by
    cases m with
    | zero => simp only [sz]; omega
    | succ m => simp only [sz]; have := hs m; omega
  leaf m := by
    cases m with
    | zero => trivial
    | succ m => exact ⟨hl,fun x hx => (hp x hx).leaf m⟩
  arm m := by
    cases m with
    | zero => trivial
    | succ m => exact ⟨h7,h13,hv,fun x hx => (hp x hx).arm m⟩
theorem szL_cons (g : Ex → Nat) (x : Ex) (l : List Ex) : szL g (x :: l) = g x + szL g l := rfl
variable {ws : List Wd}
def GoodT (ws : List Wd) (st : PS) (r : Ex × PS) : Prop := r.2.i < ws.length ∧ st.i ≤ r.2.i ∧ (r.2.failed = false → st.failed = false ∧ TOk (r.2.i - st.i) r.1)
def GoodR (ws : List Wd) (m : Nat) (R : PS → Ex × PS) : Prop := ∀ st,st.i < ws.length → st.rem ws < m → GoodT ws st (R st)
def LastW (ws : List Wd) : Prop := (∀ s : PS,s.i + 1 = ws.length → (s.cur ws).kind = 0) ∧ ∀ s : PS,(s.cur ws).kind = 3 → digitsB (s.cur ws).text < 100000000000
theorem next_i (hl : LastW ws) {st : PS} (hi : st.i < ws.length) (hk : (st.cur ws).kind ≠ 0) : (st.next ws).i = st.i + 1 ∧ st.i + 1 < ws.length := by
  have := PS.kind_lt hl.1 hk hi
  exact ⟨by simp only [PS.next]; omega,this⟩
theorem isAt_kind {st : PS} {l : List (List UInt8)} (h : st.isAt ws l = true) : (st.cur ws).kind ≠ 0 := by
  unfold PS.isAt at h
  simp only [Bool.and_eq_true,beq_iff_eq] at h
  omega
theorem next_at (hl : LastW ws) {st : PS} (hi : st.i < ws.length) {l : List (List UInt8)} (h : st.isAt ws l = true) : (st.next ws).i = st.i + 1 ∧ st.i + 1 < ws.length := next_i hl hi (isAt_kind h)
structure Went1 (ws : List Wd) (n : Nat) (st st' : PS) : Prop where
  lt : st'.i < ws.length
  ge : st.i ≤ st'.i
  ok : st'.failed = false → st.failed = false ∧ st'.i = st.i + n
theorem went_next (hl : LastW ws) {st : PS} (hi : st.i < ws.length) (hk : (st.cur ws).kind ≠ 0) : Went1 ws 1 st (st.next ws) :=
  ⟨PS.next_lt hi,PS.next_ge hi,fun h => ⟨h,(next_i hl hi hk).1⟩⟩
theorem went_fail {st : PS} (hi : st.i < ws.length) (n : Nat) : Went1 ws n st (st.fail ws) := ⟨PS.fail_lt hi,PS.fail_ge hi,fun h => by simp [PS.fail] at h⟩
theorem went_expect (hl : LastW ws) {st : PS} (hi : st.i < ws.length) (t : List UInt8) : Went1 ws 1 st (st.expect ws t) := by
  unfold PS.expect
  split
  · next h => exact went_next hl hi (isAt_kind h)
  · exact went_fail hi 1
theorem went_name (hl : LastW ws) {st : PS} (hi : st.i < ws.length) : Went1 ws 1 st (st.nameTo ws) := by
  unfold PS.nameTo
  split
  · next h => exact went_next hl hi (by omega)
  · exact went_fail hi 1
theorem went_typ (hl : LastW ws) {st : PS} (hi : st.i < ws.length) : Went1 ws 1 st (st.typTo ws) := by
  unfold PS.typTo
  split
  · next h => exact went_next hl hi (isAt_kind h)
  · exact went_expect hl hi _
theorem Went1.trans {n k : Nat} {a b c : PS} (h : Went1 ws n a b) (g : Went1 ws k b c) : Went1 ws (n + k) a c :=
  ⟨g.lt,Nat.le_trans h.ge g.ge,fun hf => by obtain ⟨x,y⟩ := g.ok hf; obtain ⟨u,v⟩ := h.ok x; exact ⟨u,by omega⟩⟩
theorem rem_lt {a b : PS} {m : Nat} (h : a.rem ws < m + 1) (ha : a.i < b.i) (hb : b.i < ws.length) : b.rem ws < m := by unfold PS.rem at *; omega
theorem rem_le' {a b : PS} {m : Nat} (h : a.rem ws < m) (ha : a.i ≤ b.i) : b.rem ws < m := by unfold PS.rem at *; omega
theorem isAt_skip {st : PS} (hl : LastW ws) (hi : st.i < ws.length) (t : List UInt8) : (st.skipTo ws t).i < ws.length ∧ st.i ≤ (st.skipTo ws t).i ∧ ((st.skipTo ws t).failed = false → st.failed = false) := by
  unfold PS.skipTo
  split
  · exact ⟨PS.next_lt hi,PS.next_ge hi,fun h => h⟩
  · exact ⟨hi,Nat.le_refl _,fun h => h⟩
theorem good_pair {st0 : PS} {m : Nat} {R : PS → Ex × PS} (hl : LastW ws) (hR : GoodR ws m R) {l : Ex} {st : PS} (hi : st.i < ws.length) (hm : st.rem ws < m + 1) (h0 : st0.i ≤ st.i) {s : List (List UInt8)} (hat : st.isAt ws s = true)
    (hl0 : st.failed = false → st0.failed = false ∧ TOk (st.i - st0.i) l) : GoodT ws st0 (pairR ws R l st) := by
  have hn := next_at hl hi hat
  have hg := hR (st.next ws) (PS.next_lt hi) (rem_lt hm (by omega) (PS.next_lt hi))
  refine ⟨hg.1,Nat.le_trans h0 (by have := hg.2.1; show st.i ≤ (R (st.next ws)).2.i; omega),fun hf => ?_⟩
  obtain ⟨a,b⟩ := hg.2.2 hf
  obtain ⟨c,d⟩ := hl0 a
  refine ⟨c,?_⟩
  have e1 := hg.2.1
  show TOk ((R (st.next ws)).2.i - st0.i) (bin _ _ _)
  have hk : pairKindB (st.cur ws).text < 13 ∧ 7 ≤ pairKindB (st.cur ws).text := by unfold pairKindB; repeat' split
                                                                                   all_goals omega
  generalize (R (st.next ws)).2.i = q at *
  generalize (R (st.next ws)).1 = r at *
  refine (TOk.node (n := (st.i - st0.i) + (q - (st.next ws).i)) (by omega) (by omega) (by omega) (by omega) (by omega) (fun _ => rfl) (by omega) (by omega) ?_ ?_).mono (by omega)
  · intro x hx
    rcases List.mem_cons.1 hx with rfl | hx
    · exact d.mono (by omega)
    · rcases List.mem_cons.1 hx with rfl | hx
      · exact b.mono (by omega)
      · cases hx
  · intro m
    have h1 := d.siz m
    have h2 := b.siz m
    simp only [szL,List.foldr_cons,List.foldr_nil]
    omega
theorem good_chainN {st0 : PS} {m : Nat} {R : PS → Ex × PS} (hl : LastW ws) (hR : GoodR ws m R) (s : List (List UInt8)) : ∀ (n : Nat) (l : Ex) (st : PS),st.i < ws.length → st.rem ws < m + 1 → st0.i ≤ st.i →
    (st.failed = false → st0.failed = false ∧ TOk (st.i - st0.i) l) → GoodT ws st0 (chainN ws R s n l st) := by
  intro n
  induction n with
  | zero => intro l st hi hm h0 hl0; exact ⟨hi,h0,hl0⟩
  | succ n ih =>
    intro l st hi hm h0 hl0
    unfold chainN
    split
    · next hat =>
      have hg := good_pair hl hR hi hm h0 hat hl0
      have hq : st.i ≤ (pairR ws R l st).2.i := by
        have hg := hR (st.next ws) (PS.next_lt hi) (rem_lt hm (by have := next_at hl hi hat; omega) (PS.next_lt hi))
        have := PS.next_ge hi
        have := hg.2.1
        show st.i ≤ (R (st.next ws)).2.i
        omega
      exact ih _ _ hg.1 (rem_le' hm hq) hg.2.1 hg.2.2
    · exact ⟨hi,h0,hl0⟩
theorem good_chain {m : Nat} {R : PS → Ex × PS} (hl : LastW ws) (hR : GoodR ws m R) (s : List (List UInt8)) : GoodR ws m (chainR ws R s) := by
  intro st hi hm
  have hg := hR st hi hm
  exact good_chainN hl hR s _ _ _ hg.1 (rem_le' (by omega) hg.2.1) hg.2.1 hg.2.2
theorem good_compare {m : Nat} {fa : PS → Ex × PS} (hl : LastW ws) (hf : GoodR ws m fa) : GoodR ws m (compareR ws fa) := by
  have hs : GoodR ws m (sumR ws fa) := good_chain hl (good_chain hl hf _) _
  intro st hi hm
  have hg := hs st hi hm
  unfold compareR
  split
  · next hat => exact good_pair hl hs hg.1 (rem_le' (by omega) hg.2.1) hg.2.1 hat hg.2.2
  · exact hg
theorem good_choice {m : Nat} {ex : PS → Ex × PS} (hl : LastW ws) (hx : GoodR ws m ex) {st : PS} (hi : st.i < ws.length) (hm : st.rem ws < m + 1) {s : List (List UInt8)} (hat : st.isAt ws s = true) : GoodT ws st (choiceR ws ex st) := by
  have hn := next_at hl hi hat
  have g1 := hx (st.next ws) (PS.next_lt hi) (rem_lt hm (by omega) (PS.next_lt hi))
  have e1 := went_expect hl g1.1 [116,104,101,110]
  have g2 := hx _ e1.lt (rem_lt hm (by have := g1.2.1; have := e1.ge; omega) e1.lt)
  have e2 := went_expect hl g2.1 [101,108,115,101]
  have g3 := hx _ e2.lt (rem_lt hm (by have := g1.2.1; have := e1.ge; have := g2.2.1; have := e2.ge; omega) e2.lt)
  unfold choiceR
  simp only
  generalize ex (st.next ws) = r1 at *
  generalize ex (r1.2.expect ws [116,104,101,110]) = r2 at *
  generalize ex (r2.2.expect ws [101,108,115,101]) = r3 at *
  have q1 := g1.2.1
  have q2 := g2.2.1
  have q3 := g3.2.1
  have p1 := e1.ge
  have p2 := e2.ge
  refine ⟨g3.1,by show st.i ≤ r3.2.i; omega,fun hf => ?_⟩
  obtain ⟨a3,b3⟩ := g3.2.2 hf
  obtain ⟨c3,d3⟩ := e2.ok a3
  obtain ⟨a2,b2⟩ := g2.2.2 c3
  obtain ⟨c2,d2⟩ := e1.ok a2
  obtain ⟨a1,b1⟩ := g1.2.2 c2
  refine ⟨a1,?_⟩
  show TOk (r3.2.i - st.i) _
  refine (TOk.node (n := (r1.2.i - (st.next ws).i) + (r2.2.i - (r1.2.expect ws [116,104,101,110]).i) + (r3.2.i - (r2.2.expect ws [101,108,115,101]).i)) (by omega) (by omega) (by simp) (by omega) (by omega) (by omega) (by omega) (by omega) ?_ ?_).mono (by omega)
  · intro x hx
    rcases List.mem_cons.1 hx with rfl | hx
    · exact b1.mono (by omega)
    · rcases List.mem_cons.1 hx with rfl | hx
      · exact b2.mono (by omega)
      · rcases List.mem_cons.1 hx with rfl | hx
        · exact b3.mono (by omega)
        · cases hx
  · intro m
    have h1 := b1.siz m
    have h2 := b2.siz m
    have h3 := b3.siz m
    simp only [szL,List.foldr_cons,List.foldr_nil]
    omega
theorem good_binding {m : Nat} {ex : PS → Ex × PS} (hl : LastW ws) (hx : GoodR ws m ex) {st : PS} (hi : st.i < ws.length) (hm : st.rem ws < m + 1) {s : List (List UInt8)} (hat : st.isAt ws s = true) : GoodT ws st (bindingR ws ex st) := by
  have hn := next_at hl hi hat
  have e1 := (went_name hl (PS.next_lt hi)).trans (went_expect hl (went_name hl (PS.next_lt hi)).lt [61])
  have g1 := hx _ e1.lt (rem_lt hm (by have := e1.ge; omega) e1.lt)
  have e2 := went_expect hl g1.1 [105,110]
  have g2 := hx _ e2.lt (rem_lt hm (by have := g1.2.1; have := e1.ge; have := e2.ge; omega) e2.lt)
  unfold bindingR
  simp only
  generalize (((st.next ws).nameTo ws).expect ws [61]) = s1 at *
  generalize ex s1 = r1 at *
  generalize ex (r1.2.expect ws [105,110]) = r2 at *
  have q1 := g1.2.1
  have q2 := g2.2.1
  have p1 := e1.ge
  have p2 := e2.ge
  refine ⟨g2.1,by show st.i ≤ r2.2.i; omega,fun hf => ?_⟩
  obtain ⟨a2,b2⟩ := g2.2.2 hf
  obtain ⟨c2,d2⟩ := e2.ok a2
  obtain ⟨a1,b1⟩ := g1.2.2 c2
  obtain ⟨c1,d1⟩ := e1.ok a1
  refine ⟨c1,?_⟩
  show TOk (r2.2.i - st.i) _
  refine (TOk.node (n := (r1.2.i - s1.i) + (r2.2.i - (r1.2.expect ws [105,110]).i)) (by omega) (by omega) (by omega) (by simp) (by omega) (by omega) (by omega) (by omega) ?_ ?_).mono (by omega)
  · intro x hx
    rcases List.mem_cons.1 hx with rfl | hx
    · exact b1.mono (by omega)
    · rcases List.mem_cons.1 hx with rfl | hx
      · exact b2.mono (by omega)
      · cases hx
  · intro m
    have h1 := b1.siz m
    have h2 := b2.siz m
    simp only [szL,List.foldr_cons,List.foldr_nil]
    omega
theorem good_expr {m : Nat} {ex fa : PS → Ex × PS} (hl : LastW ws) (hx : GoodR ws m ex) (hf : GoodR ws (m + 1) fa) : GoodR ws (m + 1) (exprR ws ex fa) := by
  intro st hi hm
  unfold exprR
  split
  · next h => exact good_choice hl hx hi hm h
  · split
    · next h => exact good_binding hl hx hi hm h
    · exact good_compare hl hf st hi hm
def GoodL (ws : List Wd) (st : PS) (r : List Ex × PS) : Prop := r.2.i < ws.length ∧ st.i ≤ r.2.i ∧ (r.2.failed = false → st.failed = false ∧ (∀ x ∈ r.1,TOk (r.2.i - st.i) x) ∧ ∀ m,szL (sz m) r.1 ≤ r.2.i - st.i)
theorem good_argsN {m : Nat} {ex : PS → Ex × PS} (hl : LastW ws) (hx : GoodR ws m ex) : ∀ (n : Nat) (st : PS),st.i < ws.length → st.rem ws < m + 1 → GoodL ws st (argsN ws ex n st) := by
  intro n
  induction n with
  | zero => intro st hi hm; exact ⟨hi,Nat.le_refl _,fun h => ⟨h,(fun x hx => by cases hx),fun m => Nat.zero_le _⟩⟩
  | succ n ih =>
    intro st hi hm
    unfold argsN
    split
    · next hat =>
      have hn := next_at hl hi hat
      have g1 := hx (st.next ws) (PS.next_lt hi) (rem_lt hm (by omega) (PS.next_lt hi))
      have g2 := ih (ex (st.next ws)).2 g1.1 (rem_le' hm (by have := g1.2.1; omega))
      generalize ex (st.next ws) = r1 at *
      generalize argsN ws ex n r1.2 = r2 at *
      have q1 := g1.2.1
      have q2 := g2.2.1
      refine ⟨g2.1,by show st.i ≤ r2.2.i; omega,fun hf => ?_⟩
      obtain ⟨a2,b2,c2⟩ := g2.2.2 hf
      obtain ⟨a1,b1⟩ := g1.2.2 a2
      refine ⟨a1,fun x hx => ?_,fun m => ?_⟩
      · show TOk (r2.2.i - st.i) x
        rcases List.mem_cons.1 hx with rfl | hx
        · exact b1.mono (by omega)
        · exact (b2 x hx).mono (by omega)
      · show szL (sz m) (r1.1 :: r2.1) ≤ r2.2.i - st.i
        have h1 := b1.siz m
        have h2 := c2 m
        rw [szL_cons]
        omega
    · exact ⟨hi,Nat.le_refl _,fun h => ⟨h,(fun x hx => by cases hx),fun m => Nat.zero_le _⟩⟩
theorem good_args {m : Nat} {ex : PS → Ex × PS} (hl : LastW ws) (hx : GoodR ws m ex) {st : PS} (hi : st.i < ws.length) (hm : st.rem ws < m) : GoodL ws st (argsR ws ex st) := by
  have e1 := went_expect hl hi [40]
  unfold argsR
  simp only
  generalize st.expect ws [40] = s1 at *
  have p1 := e1.ge
  split
  · next hat =>
    have hn := next_at hl e1.lt hat
    exact ⟨PS.next_lt e1.lt,by show st.i ≤ (s1.next ws).i; omega,fun h => ⟨(e1.ok h).1,(fun x hx => by cases hx),fun m => Nat.zero_le _⟩⟩
  · have g1 := hx s1 e1.lt (rem_le' hm p1)
    have g2 := good_argsN hl hx ws.length (ex s1).2 g1.1 (rem_le' (m := m + 1) (a := st) (by omega) (by have := g1.2.1; omega))
    generalize ex s1 = r1 at *
    generalize argsN ws ex ws.length r1.2 = r2 at *
    have e2 := went_expect hl g2.1 [41]
    have q1 := g1.2.1
    have q2 := g2.2.1
    have p2 := e2.ge
    refine ⟨e2.lt,by show st.i ≤ (r2.2.expect ws [41]).i; omega,fun hf => ?_⟩
    obtain ⟨c2,d2⟩ := e2.ok hf
    obtain ⟨a2,b2,f2⟩ := g2.2.2 c2
    obtain ⟨a1,b1⟩ := g1.2.2 a2
    obtain ⟨c1,d1⟩ := e1.ok a1
    refine ⟨c1,fun x hx => ?_,fun m => ?_⟩
    · show TOk ((r2.2.expect ws [41]).i - st.i) x
      rcases List.mem_cons.1 hx with rfl | hx
      · exact b1.mono (by omega)
      · exact (b2 x hx).mono (by omega)
    · show szL (sz m) (r1.1 :: r2.1) ≤ (r2.2.expect ws [41]).i - st.i
      have h1 := b1.siz m
      have h2 := f2 m
      rw [szL_cons]
      omega
theorem TOk.leaf1 {k p : Nat} {nm : List UInt8} {v : Int} (hk : k ≤ 3) (hv : 0 ≤ v ∧ v < 100000000000) : TOk 1 ⟨k,p,nm,v,[]⟩ :=
  TOk.node (n := 0) (by omega) (by omega) (by omega) (by omega) (fun _ => rfl) (by omega) (by omega) hv (fun x hx => by cases hx) (fun m => Nat.le_refl _)
theorem good_factor {m : Nat} {ex fa : PS → Ex × PS} (hl : LastW ws) (hx : GoodR ws m ex) (hf : GoodR ws m fa) : GoodR ws (m + 1) (factorR ws ex fa) := by
  intro st hi hm
  unfold factorR
  split
  · next hk =>
    have hn := next_i hl hi (by omega)
    exact ⟨PS.next_lt hi,PS.next_ge hi,fun h => ⟨h,by show TOk ((st.next ws).i - st.i) _; rw [hn.1,Nat.add_sub_cancel_left]; exact TOk.leaf1 (by omega) ⟨Int.natCast_nonneg _,by have := hl.2 st hk; omega⟩⟩⟩
  split
  · next hk =>
    have hn := next_i hl hi (by omega)
    unfold namedR
    split
    · next hat =>
      have hr : (st.next ws).rem ws < m := rem_lt hm (by omega) (PS.next_lt hi)
      have g := good_args hl hx (PS.next_lt hi) hr
      generalize argsR ws ex (st.next ws) = r at *
      have q := g.2.1
      refine ⟨g.1,by show st.i ≤ r.2.i; omega,fun hf => ?_⟩
      obtain ⟨a,b,c⟩ := g.2.2 hf
      refine ⟨a,?_⟩
      show TOk (r.2.i - st.i) _
      exact (TOk.node (n := r.2.i - (st.next ws).i) (by omega) (by omega) (by omega) (by omega) (by omega) (by omega) (by omega) (by omega) b c).mono (by omega)
    · exact ⟨PS.next_lt hi,PS.next_ge hi,fun h => ⟨h,by show TOk ((st.next ws).i - st.i) _; rw [hn.1,Nat.add_sub_cancel_left]; exact TOk.leaf1 (by omega) (by omega)⟩⟩
  split
  · next hk =>
    have hn := next_at hl hi hk
    exact ⟨PS.next_lt hi,PS.next_ge hi,fun h => ⟨h,by show TOk ((st.next ws).i - st.i) _; rw [hn.1,Nat.add_sub_cancel_left]; exact TOk.leaf1 (by omega) (by split <;> omega)⟩⟩
  split
  · next hk =>
    have hn := next_at hl hi hk
    have g := hx (st.next ws) (PS.next_lt hi) (rem_lt hm (by omega) (PS.next_lt hi))
    unfold bracketR
    generalize ex (st.next ws) = r at *
    have e := went_expect hl g.1 [41]
    have q := g.2.1
    have p := e.ge
    refine ⟨e.lt,by show st.i ≤ (r.2.expect ws [41]).i; omega,fun hf => ?_⟩
    obtain ⟨c,d⟩ := e.ok hf
    obtain ⟨a,b⟩ := g.2.2 c
    refine ⟨a,?_⟩
    show TOk ((r.2.expect ws [41]).i - st.i) _
    exact (TOk.node (n := r.2.i - (st.next ws).i) (by omega) (by simp) (by omega) (by omega) (by omega) (by omega) (by omega) (by omega) (fun x hx => by rcases List.mem_cons.1 hx with rfl | hx; exact b; cases hx) (fun m => by have := b.siz m; simp only [szL,List.foldr_cons,List.foldr_nil]; omega)).mono (by omega)
  have hsign : ∀ k,13 ≤ k → k < 15 → ∀ s : List (List UInt8),st.isAt ws s = true → GoodT ws st (signR ws fa k st) := by
    intro k h1 h2 s hk
    have hn := next_at hl hi hk
    have g := hf (st.next ws) (PS.next_lt hi) (rem_lt hm (by omega) (PS.next_lt hi))
    unfold signR
    generalize fa (st.next ws) = r at *
    have q := g.2.1
    refine ⟨g.1,by show st.i ≤ r.2.i; omega,fun hf => ?_⟩
    obtain ⟨a,b⟩ := g.2.2 hf
    refine ⟨a,?_⟩
    show TOk (r.2.i - st.i) _
    exact (TOk.node (n := r.2.i - (st.next ws).i) h2 (by omega) (by omega) (by omega) (by omega) (by omega) (fun _ => rfl) (by omega) (fun x hx => by rcases List.mem_cons.1 hx with rfl | hx; exact b; cases hx) (fun m => by have := b.siz m; simp only [szL,List.foldr_cons,List.foldr_nil]; omega)).mono (by omega)
  split
  · next hk => exact hsign 13 (by omega) (by omega) _ hk
  split
  · next hk => exact hsign 14 (by omega) (by omega) _ hk
  exact ⟨PS.fail_lt hi,PS.fail_ge hi,fun h => by simp [PS.fail] at h⟩
theorem good_rd (hl : LastW ws) : ∀ m,GoodR ws m (rd ws m).1 ∧ GoodR ws m (rd ws m).2 := by
  intro m
  induction m with
  | zero => exact ⟨fun st hi hm => absurd hm (by omega),fun st hi hm => absurd hm (by omega)⟩
  | succ m ih =>
    have hf := good_factor hl ih.1 ih.2
    exact ⟨good_expr hl ih.1 hf,hf⟩
def Short (ws : List Wd) : Prop := ∀ x ∈ ws,x.text.length ≤ 100000 ∧ (x.kind ≠ 0 → x.text ≠ [])
theorem cur_short (hs : Short ws) (st : PS) : (st.cur ws).text.length ≤ 100000 := by
  unfold PS.cur List.getD
  rcases h : ws[st.i]? with _ | x
  · simp
  · simpa using (hs x (List.mem_of_getElem? h)).1
theorem cur_text (hs : Short ws) (st : PS) (hk : (st.cur ws).kind ≠ 0) : (st.cur ws).text ≠ [] := by
  unfold PS.cur List.getD at *
  rcases h : ws[st.i]? with _ | x
  · rw [h] at hk; simp at hk
  · rw [h] at hk
    simpa using (hs x (List.mem_of_getElem? h)).2 (by simpa using hk)
theorem nameTo_text (hs : Short ws) (st : PS) (h : (st.nameTo ws).failed = false) : (st.nameWd ws).text ≠ [] := by
  unfold PS.nameTo at h
  split at h
  · next hk => unfold PS.nameWd; rw [if_pos hk]; exact cur_text hs st (by omega)
  · simp [PS.fail] at h
theorem typ_two (st : PS) : st.typ ws = 1 ∨ st.typ ws = 2 := by unfold PS.typ; split <;> simp
theorem nameWd_short (hs : Short ws) (st : PS) : (st.nameWd ws).text.length ≤ 100000 := by
  unfold PS.nameWd
  split
  · exact cur_short hs st
  · simp
theorem went_param (hl : LastW ws) {st : PS} (hi : st.i < ws.length) : Went1 ws 3 st (paramR ws st).2 :=
  ((went_name hl hi).trans (went_expect hl (went_name hl hi).lt [58])).trans (went_typ hl ((went_name hl hi).trans (went_expect hl (went_name hl hi).lt [58])).lt)
def GoodP (ws : List Wd) (st : PS) (r : List Prm × PS) : Prop := r.2.i < ws.length ∧ st.i ≤ r.2.i ∧ (r.2.failed = false → st.failed = false ∧ r.1.length ≤ r.2.i - st.i) ∧ ∀ x ∈ r.1,x.name.length ≤ 100000 ∧ (x.typ = 1 ∨ x.typ = 2)
theorem good_prmsN (hl : LastW ws) (hs : Short ws) : ∀ (n : Nat) (st : PS),st.i < ws.length → GoodP ws st (prmsN ws n st) := by
  intro n
  induction n with
  | zero => intro st hi; exact ⟨hi,Nat.le_refl _,fun h => ⟨h,Nat.zero_le _⟩,fun x hx => by cases hx⟩
  | succ n ih =>
    intro st hi
    unfold prmsN
    split
    · next hat =>
      have hn := next_at hl hi hat
      have e1 := went_param hl (PS.next_lt hi)
      have g2 := ih _ e1.lt
      have hnm : (paramR ws (st.next ws)).1.name.length ≤ 100000 ∧ ((paramR ws (st.next ws)).1.typ = 1 ∨ (paramR ws (st.next ws)).1.typ = 2) := ⟨nameWd_short hs _,typ_two _⟩
      generalize paramR ws (st.next ws) = r1 at *
      generalize prmsN ws n r1.2 = r2 at *
      have q1 := e1.ge
      have q2 := g2.2.1
      refine ⟨g2.1,by show st.i ≤ r2.2.i; omega,fun hf => ?_,fun x hx => ?_⟩
      · obtain ⟨a,b⟩ := g2.2.2.1 hf
        obtain ⟨c,d⟩ := e1.ok a
        exact ⟨c,by show (r1.1 :: r2.1).length ≤ r2.2.i - st.i; simp; omega⟩
      · rcases List.mem_cons.1 hx with rfl | hx
        · exact hnm
        · exact g2.2.2.2 x hx
    · exact ⟨hi,Nat.le_refl _,fun h => ⟨h,Nat.zero_le _⟩,fun x hx => by cases hx⟩
theorem good_prms (hl : LastW ws) (hs : Short ws) {st : PS} (hi : st.i < ws.length) : GoodP ws st (prmsR ws st) := by
  have e1 := went_expect hl hi [40]
  unfold prmsR
  simp only
  generalize st.expect ws [40] = s1 at *
  have p1 := e1.ge
  split
  · next hat =>
    have hn := next_at hl e1.lt hat
    exact ⟨PS.next_lt e1.lt,by show st.i ≤ (s1.next ws).i; omega,fun h => ⟨(e1.ok h).1,Nat.zero_le _⟩,fun x hx => by cases hx⟩
  · have g1 := went_param hl e1.lt
    have g2 := good_prmsN hl hs ws.length _ g1.lt
    have hnm : (paramR ws s1).1.name.length ≤ 100000 ∧ ((paramR ws s1).1.typ = 1 ∨ (paramR ws s1).1.typ = 2) := ⟨nameWd_short hs _,typ_two _⟩
    generalize paramR ws s1 = r1 at *
    generalize prmsN ws ws.length r1.2 = r2 at *
    have e2 := went_expect hl g2.1 [41]
    have q1 := g1.ge
    have q2 := g2.2.1
    have p2 := e2.ge
    refine ⟨e2.lt,by show st.i ≤ (r2.2.expect ws [41]).i; omega,fun hf => ?_,fun x hx => ?_⟩
    · obtain ⟨c2,d2⟩ := e2.ok hf
      obtain ⟨a2,b2⟩ := g2.2.2.1 c2
      obtain ⟨a1,b1⟩ := g1.ok a2
      obtain ⟨c1,d1⟩ := e1.ok a1
      exact ⟨c1,by show (r1.1 :: r2.1).length ≤ (r2.2.expect ws [41]).i - st.i; simp; omega⟩
    · rcases List.mem_cons.1 hx with rfl | hx
      · exact hnm
      · exact g2.2.2.2 x hx
structure FOk (n : Nat) (f : Fun) : Prop where
  name : f.name.length ≤ 100000
  pn : ∀ x ∈ f.params,x.name.length ≤ 100000
  pl : f.params.length ≤ n
  body : TOk n f.body
  ne : f.name ≠ []
  pt : ∀ x ∈ f.params,x.typ = 1 ∨ x.typ = 2
  rt : f.result = 1 ∨ f.result = 2
def GoodF (ws : List Wd) (st : PS) (r : Fun × PS) : Prop := r.2.i < ws.length ∧ st.i ≤ r.2.i ∧ (r.2.failed = false → st.failed = false ∧ FOk (r.2.i - st.i) r.1)
theorem good_fun {ex : PS → Ex × PS} (hl : LastW ws) (hs : Short ws) (hx : GoodR ws ws.length ex) {st : PS} (hi : st.i < ws.length) : GoodF ws st (funR ws ex st) := by
  have a0 := isAt_skip hl hi [112,117,98]
  have a1 := went_expect hl a0.1 [102,110]
  have a2 := went_name hl a1.lt
  have a3 := good_prms hl hs a2.lt
  have hnm := nameWd_short hs ((st.skipTo ws [112,117,98]).expect ws [102,110])
  have htx := nameTo_text hs ((st.skipTo ws [112,117,98]).expect ws [102,110])
  unfold funR
  simp only
  generalize st.skipTo ws [112,117,98] = s1 at *
  generalize s1.expect ws [102,110] = s2 at *
  generalize s2.nameTo ws = s3 at *
  generalize prmsR ws s3 = ps at *
  have a4 := (went_expect hl a3.1 [58])
  generalize ps.2.expect ws [58] = s5 at *
  have hty := typ_two (ws := ws) s5
  have a5 := (went_typ hl a4.lt).trans (went_expect hl (went_typ hl a4.lt).lt [61])
  generalize (s5.typTo ws).expect ws [61] = s6 at *
  have a6 := hx s6 a5.lt (by unfold PS.rem; have := a5.lt; omega)
  generalize ex s6 = b at *
  have a7 := went_expect hl a6.1 [59]
  have p0 := a0.2.1
  have p1 := a1.ge
  have p2 := a2.ge
  have p3 := a3.2.1
  have p4 := a4.ge
  have p5 := a5.ge
  have p6 := a6.2.1
  have p7 := a7.ge
  refine ⟨a7.lt,by show st.i ≤ (b.2.expect ws [59]).i; omega,fun hf => ?_⟩
  obtain ⟨b7,c7⟩ := a7.ok hf
  obtain ⟨b6,c6⟩ := a6.2.2 b7
  obtain ⟨b5,c5⟩ := a5.ok b6
  obtain ⟨b4,c4⟩ := a4.ok b5
  obtain ⟨b3,c3⟩ := a3.2.2.1 b4
  obtain ⟨b2,c2⟩ := a2.ok b3
  obtain ⟨b1,c1⟩ := a1.ok b2
  refine ⟨a0.2.2 b1,?_⟩
  show FOk ((b.2.expect ws [59]).i - st.i) _
  exact ⟨hnm,fun x hx => (a3.2.2.2 x hx).1,by show ps.1.length ≤ _; omega,c6.mono (by omega),htx b3,fun x hx => (a3.2.2.2 x hx).2,hty⟩
def GoodFs (ws : List Wd) (st : PS) (r : List Fun × PS) : Prop :=
  r.2.i < ws.length ∧ st.i ≤ r.2.i ∧ (r.2.failed = false → st.failed = false ∧ r.1.length ≤ r.2.i - st.i ∧ (∀ f ∈ r.1,FOk (r.2.i - st.i) f) ∧ ∀ m,(r.1.map fun f => sz m f.body).sum ≤ r.2.i - st.i)
theorem fun_goes {ex : PS → Ex × PS} (hl : LastW ws) (hs : Short ws) (hx : GoodR ws ws.length ex) {st : PS} (hi : st.i < ws.length) (hat : st.isAt ws [[112,117,98],[102,110]] = true) : st.i + 1 ≤ (funR ws ex st).2.i := by
  have hn := next_at hl hi hat
  have h1 := fn_progress hat hn.2
  have a0 := isAt_skip hl hi [112,117,98]
  have a1 := went_expect hl a0.1 [102,110]
  have a2 := went_name hl a1.lt
  have a3 := good_prms hl hs a2.lt
  unfold funR
  simp only
  generalize (st.skipTo ws [112,117,98]).expect ws [102,110] = s2 at *
  generalize s2.nameTo ws = s3 at *
  generalize prmsR ws s3 = ps at *
  have a4 := (went_expect hl a3.1 [58])
  generalize ps.2.expect ws [58] = s5 at *
  have a5 := (went_typ hl a4.lt).trans (went_expect hl (went_typ hl a4.lt).lt [61])
  generalize (s5.typTo ws).expect ws [61] = s6 at *
  have a6 := hx s6 a5.lt (by unfold PS.rem; have := a5.lt; omega)
  generalize ex s6 = b at *
  have a7 := went_expect hl a6.1 [59]
  have p2 := a2.ge
  have p3 := a3.2.1
  have p4 := a4.ge
  have p5 := a5.ge
  have p6 := a6.2.1
  have p7 := a7.ge
  show st.i + 1 ≤ (b.2.expect ws [59]).i
  omega
theorem good_funsN {ex : PS → Ex × PS} (hl : LastW ws) (hs : Short ws) (hx : GoodR ws ws.length ex) : ∀ (n : Nat) (st : PS),st.i < ws.length → GoodFs ws st (funsN ws ex n st) := by
  intro n
  induction n with
  | zero => intro st hi; exact ⟨hi,Nat.le_refl _,fun h => ⟨h,Nat.zero_le _,(fun x hx => by cases hx),fun m => Nat.zero_le _⟩⟩
  | succ n ih =>
    intro st hi
    unfold funsN
    split
    · next hat =>
      have g0 := fun_goes hl hs hx hi hat
      have g1 := good_fun hl hs hx hi
      generalize funR ws ex st = r1 at *
      have g2 := ih r1.2 g1.1
      generalize funsN ws ex n r1.2 = r2 at *
      have q1 := g1.2.1
      have q2 := g2.2.1
      refine ⟨g2.1,by show st.i ≤ r2.2.i; omega,fun hf => ?_⟩
      obtain ⟨a2,b2,c2,d2⟩ := g2.2.2 hf
      obtain ⟨a1,b1⟩ := g1.2.2 a2
      refine ⟨a1,by show (r1.1 :: r2.1).length ≤ r2.2.i - st.i; simp; omega,fun f hf => ?_,fun m => ?_⟩
      · show FOk (r2.2.i - st.i) f
        rcases List.mem_cons.1 hf with rfl | hf
        · exact ⟨b1.name,b1.pn,by have := b1.pl; omega,b1.body.mono (by omega),b1.ne,b1.pt,b1.rt⟩
        · have := c2 f hf
          exact ⟨this.name,this.pn,by have := this.pl; omega,this.body.mono (by omega),this.ne,this.pt,this.rt⟩
      · show ((r1.1 :: r2.1).map fun f => sz m f.body).sum ≤ r2.2.i - st.i
        have h1 := b1.body.siz m
        have h2 := d2 m
        rw [List.map_cons,List.sum_cons]
        omega
    · exact ⟨hi,Nat.le_refl _,fun h => ⟨h,Nat.zero_le _,(fun x hx => by cases hx),fun m => Nat.zero_le _⟩⟩
theorem went_imp (hl : LastW ws) {st : PS} (hi : st.i < ws.length) : Went1 ws 3 st (impR ws st).2 :=
  ((went_expect hl hi [117,115,101]).trans (went_name hl (went_expect hl hi [117,115,101]).lt)).trans (went_expect hl ((went_expect hl hi [117,115,101]).trans (went_name hl (went_expect hl hi [117,115,101]).lt)).lt [59])
def GoodI (ws : List Wd) (st : PS) (r : List Imp × PS) : Prop := r.2.i < ws.length ∧ st.i ≤ r.2.i ∧ (r.2.failed = false → st.failed = false ∧ 3 * r.1.length ≤ r.2.i - st.i) ∧ ∀ x ∈ r.1,x.name.length ≤ 100000
theorem good_imps (hl : LastW ws) (hs : Short ws) : ∀ (n : Nat) (st : PS),st.i < ws.length → GoodI ws st (impsN ws n st) := by
  intro n
  induction n with
  | zero => intro st hi; exact ⟨hi,Nat.le_refl _,fun h => ⟨h,Nat.zero_le _⟩,fun x hx => by cases hx⟩
  | succ n ih =>
    intro st hi
    unfold impsN
    split
    · next hat =>
      have e1 := went_imp hl hi
      have g2 := ih _ e1.lt
      have hnm : (impR ws st).1.name.length ≤ 100000 := nameWd_short hs _
      generalize impR ws st = r1 at *
      generalize impsN ws n r1.2 = r2 at *
      have q1 := e1.ge
      have q2 := g2.2.1
      refine ⟨g2.1,by show st.i ≤ r2.2.i; omega,fun hf => ?_,fun x hx => ?_⟩
      · obtain ⟨a,b⟩ := g2.2.2.1 hf
        obtain ⟨c,d⟩ := e1.ok a
        exact ⟨c,by show 3 * (r1.1 :: r2.1).length ≤ r2.2.i - st.i; simp; omega⟩
      · rcases List.mem_cons.1 hx with rfl | hx
        · exact hnm
        · exact g2.2.2.2 x hx
    · exact ⟨hi,Nat.le_refl _,fun h => ⟨h,Nat.zero_le _⟩,fun x hx => by cases hx⟩
structure MOk (n : Nat) (md : Mod) : Prop where
  il : 3 * md.imports.length ≤ n
  im : ∀ x ∈ md.imports,x.name.length ≤ 100000
  fl : md.funs.length ≤ n
  fs : ∀ f ∈ md.funs,FOk n f
  all : ∀ m,(md.funs.map fun f => sz m f.body).sum ≤ n
theorem good_mod (hl : LastW ws) (hs : Short ws) (hpos : 0 < ws.length) (hf : (modR ws (rd ws ws.length).1 ⟨0,false,0⟩).2.failed = false) : MOk ws.length (modR ws (rd ws ws.length).1 ⟨0,false,0⟩).1 := by
  have g1 := good_imps hl hs ws.length ⟨0,false,0⟩ hpos
  unfold modR at *
  simp only at hf ⊢
  generalize impsN ws ws.length ⟨0,false,0⟩ = r1 at *
  have g2 := good_funsN hl hs (good_rd hl ws.length).1 ws.length r1.2 g1.1
  generalize funsN ws (rd ws ws.length).1 ws.length r1.2 = r2 at *
  have hr : r2.2.failed = false := by
    split at hf
    · exact hf
    · simp [PS.fail] at hf
  obtain ⟨a2,b2,c2,d2⟩ := g2.2.2 hr
  obtain ⟨a1,b1⟩ := g1.2.2.1 a2
  have q1 := g1.1
  have q2 := g2.1
  simp only at *
  exact ⟨by show 3 * r1.1.length ≤ _; omega,g1.2.2.2,by show r2.1.length ≤ _; omega,fun f hf => ⟨(c2 f hf).name,(c2 f hf).pn,by have := (c2 f hf).pl; omega,(c2 f hf).body.mono (by omega),(c2 f hf).ne,(c2 f hf).pt,(c2 f hf).rt⟩,fun m => Nat.le_trans (d2 m) (by omega)⟩
end Go.Proofs.YtpmmjkiclngpmaaGreatDoor
