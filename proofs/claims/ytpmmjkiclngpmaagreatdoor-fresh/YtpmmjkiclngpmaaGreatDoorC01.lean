/- C01: of the texts Prog1, Same, Sound, Sound2. -/
import Derived.Test.YtpmmjkiclngpmaaGreatDoorB42
import Derived.Test.YtpmmjkiclngpmaaGreatDoorB46
import Derived.Test.YtpmmjkiclngpmaaGreatDoorB44
set_option maxRecDepth 100000
set_option linter.unusedSimpArgs false
set_option linter.unusedVariables false
/- An image of modules with which nothing is wrong is linked code of their functions. -/
namespace Go.Proofs.YtpmmjkiclngpmaaGreatDoor
open Go.RowKit

/-- Two lists, one beside the other. -/
def All2 {α β : Type} (Q : α → β → Prop) : List α → List β → Prop
  | [], [] => True
  | a :: l, b :: r => Q a b ∧ All2 Q l r
  | _, _ => False
theorem All2.len {α β : Type} {Q : α → β → Prop} : ∀ {l : List α} {r : List β}, All2 Q l r → l.length = r.length
  | [], [], _ => rfl
  | _ :: _, _ :: _, h => by simp only [List.length_cons]; rw [h.2.len]
  | [], _ :: _, h => h.elim
  | _ :: _, [], h => h.elim
theorem All2.at {α β : Type} {Q : α → β → Prop} : ∀ {l : List α} {r : List β}, All2 Q l r → ∀ {k : Nat} {b : β}, r[k]? = some b → ∃ a, l[k]? = some a ∧ Q a b
  | [], [], _, k, b, h => by simp at h
  | a :: l, b :: r, hq, 0, c, h => by simp at h; subst h; exact ⟨a, rfl, hq.1⟩
  | a :: l, b :: r, hq, k + 1, c, h => by
    have h' : r[k]? = some c := by simpa using h
    obtain ⟨x, h1, h2⟩ := hq.2.at h'
    exact ⟨x, by simpa using h1, h2⟩
  | [], _ :: _, h, _, _, _ => h.elim
  | _ :: _, [], h, _, _, _ => h.elim
theorem All2.append {α β : Type} {Q : α → β → Prop} : ∀ {l l' : List α} {r r' : List β}, All2 Q l r → All2 Q l' r' → All2 Q (l ++ l') (r ++ r')
  | [], _, [], _, _, h => h
  | _ :: _, _, _ :: _, _, h, h' => ⟨h.1, h.2.append h'⟩
  | [], _, _ :: _, _, h, _ => h.elim
  | _ :: _, _, [], _, h, _ => h.elim
theorem All2.map {α β γ : Type} {Q : γ → β → Prop} {f : α → γ} : ∀ {l : List α} {r : List β}, All2 (fun a b => Q (f a) b) l r → All2 Q (l.map f) r
  | [], [], _ => trivial
  | _ :: _, _ :: _, h => ⟨h.1, h.2.map⟩
  | [], _ :: _, h => h.elim
  | _ :: _, [], h => h.elim
/-- The function is compiled of that one. -/
def Cmpd (P : Sym → Nat) (E : Nm → Option Mod) (c : CF) (F : PF) : Prop :=
  ∃ nm md f lk, MOk 601 md ∧ f ∈ md.funs ∧ c = cfOf nm (fndE nm md (imsE E md)) 700 f lk ∧ F = ⟨f.params.map fun x => x.name, f.body, fun n => P (symV nm md (imsE E md) n)⟩
/-- The functions of a module, as a run sees them. -/
def pfsM (P : Sym → Nat) (E : Nm → Option Mod) (m : Md) : List PF := match formOf m.now with
  | none => []
  | some md => md.funs.map fun f => ⟨f.params.map fun x => x.name, f.body, fun n => P (symV m.name md (imsE E md) n)⟩
theorem compK_cmpd {P : Sym → Nat} {E : Nm → Option Mod} {nm : Nm} {md : Mod} (hok : MOk 601 md) : ∀ (l : List Fun) (lk : List Us), (∀ f ∈ l, f ∈ md.funs) → All2 (Cmpd P E) (compK nm (fndE nm md (imsE E md)) 700 l lk).1 (l.map fun f => ⟨f.params.map fun x => x.name, f.body, fun n => P (symV nm md (imsE E md) n)⟩)
  | [], _, _ => trivial
  | f :: r, lk, h => ⟨⟨nm, md, f, lk, hok, h f (by simp), rfl, rfl⟩, compK_cmpd hok r _ fun x hx => h x (by simp [hx])⟩
/-- A module whose functions are what compiling it here gives. -/
def GoodM (E : Nm → Option Mod) (m : Md) : Prop := ∃ md, formOf m.now = some md ∧ (chkE E md).code = 0 ∧ funsOf m = (objE m.name E md).1
theorem good_cmpd {P : Sym → Nat} {E : Nm → Option Mod} : ∀ (L : List Md), (∀ m ∈ L, GoodM E m ∧ m.now.length ≤ 600) → All2 (Cmpd P E) (L.map funsOf).flatten (L.map (pfsM P E)).flatten
  | [], _ => trivial
  | m :: r, h => by
    obtain ⟨⟨md, h1, h2, h3⟩, hl⟩ := h m (by simp)
    rw [List.map_cons, List.map_cons, List.flatten_cons, List.flatten_cons]
    refine All2.append ?_ (good_cmpd r fun x hx => h x (by simp [hx]))
    rw [h3]
    unfold pfsM objE
    rw [h1]
    exact compK_cmpd (formOf_ok hl h1) md.funs _ fun f hf => hf
theorem Cmpd.linked {pl : Sym → Option Nat} {E : Nm → Option Mod} {c : CF} {F : PF} (h : Cmpd (plN pl) E c F) : (fnOf (bndF pl c)).params = F.params.length ∧ (fnOf (bndF pl c)).code = cg F.cal 701 F.params 0 F.body ++ [(6, 0)] ∧ deep 701 F.body ∧ mx 701 F.params.length F.body ≤ (fnOf (bndF pl c)).slots ∧
    (fnOf (bndF pl c)).params ≤ (fnOf (bndF pl c)).slots ∧ (fnOf (bndF pl c)).slots + sz 701 F.body + 1 ≤ 2000 := by
  obtain ⟨nm, md, f, lk, hok, hf, rfl, rfl⟩ := h
  have hfo := hok.fs f hf
  have ht := hok.trees f hf
  have hs := codeOf_slots (fndE nm md (imsE E md)) 700 f lk ht.1 ht.2
  have hp := hfo.pl
  have hz := hfo.body.siz 701
  have hz2 := hfo.body.siz (700 + 1)
  refine ⟨?_, ?_, ht.1.deep _ _, ?_, ?_, ?_⟩
  · show (f.params.map fun x => x.typ).length = (f.params.map fun x => x.name).length
    rw [List.length_map, List.length_map]
  · exact codeOf_linked (fndE nm md (imsE E md)) (plN pl) 700 f lk
  · show mx 701 (f.params.map fun x => x.name).length f.body ≤ (codeOf (fndE nm md (imsE E md)) 700 f lk).slots
    rw [List.length_map]; exact hs.1
  · show (f.params.map fun x => x.typ).length ≤ (codeOf (fndE nm md (imsE E md)) 700 f lk).slots
    rw [List.length_map]; exact hs.2.1
  · show (codeOf (fndE nm md (imsE E md)) 700 f lk).slots + sz 701 f.body + 1 ≤ 2000
    have := hs.2.2
    omega
theorem link_linked {E : Nm → Option Mod} {L : List Md} (h : ∀ m ∈ L, GoodM E m ∧ m.now.length ≤ 600) : Linked ((linkP (L.map funsOf)).map fnOf) (L.map (pfsM (plN (plc (L.map funsOf).flatten)) E)).flatten 701 2000 := by
  intro k F hF
  obtain ⟨c, hc, hq⟩ := (good_cmpd L h).at hF
  refine ⟨fnOf (bndF (plc (L.map funsOf).flatten) c), ?_, hq.linked⟩
  unfold linkP
  rw [List.map_map, List.getElem?_map, hc]
  rfl
theorem link_imOk {E : Nm → Option Mod} {L : List Md} (h : ∀ m ∈ L, GoodM E m ∧ m.now.length ≤ 600) (hn : (L.map funsOf).flatten.length ≤ 100000) : ImOk (linkP (L.map funsOf)) := by
  refine ⟨by unfold linkP; rw [List.length_map]; exact hn, fun f hf => ?_⟩
  unfold linkP at hf
  obtain ⟨c, hc, rfl⟩ := List.mem_map.1 hf
  obtain ⟨k, hk, hkc⟩ := List.getElem_of_mem hc
  have ha := good_cmpd (P := plN (plc (L.map funsOf).flatten)) L h
  have hk2 : k < (L.map (pfsM (plN (plc (L.map funsOf).flatten)) E)).flatten.length := by rw [← ha.len]; exact hk
  obtain ⟨c', hc', hq⟩ := ha.at (List.getElem?_eq_getElem hk2)
  rw [List.getElem?_eq_getElem hk, Option.some.injEq, hkc] at hc'
  subst hc'
  obtain ⟨q1, q2, q3, q4, q5, q6⟩ := hq.linked
  have hcl : (bndF (plc (L.map funsOf).flatten) c).code = _ := q2
  obtain ⟨nm, md, f, lk, hok, hfm, rfl, _⟩ := hq
  have hg := gen_grew (fndE nm md (imsE E md)) (700 + 1) f.body (enters f.params (begun lk))
  have he := enters_len f.params (begun lk) (by simp [begun])
  have hz := (hok.fs f hfm).body.siz (700 + 1)
  refine ⟨by rw [hcl]; simp, ?_, ?_, q5⟩
  · show ((codeOf (fndE nm md (imsE E md)) 700 f lk).code.map _).length ≤ 100000
    rw [List.length_map]
    show ((gen (fndE nm md (imsE E md)) (700 + 1) f.body (enters f.params (begun lk))).code ++ [(6, 0)]).length ≤ _
    have h1 := hg.code.2
    rw [he.2.2.1, show (begun lk).code.length = 0 from rfl] at h1
    rw [List.length_append]
    simp only [List.length_cons, List.length_nil]
    omega
  · have : (fnOf (bndF (plc (L.map funsOf).flatten) (cfOf nm (fndE nm md (imsE E md)) 700 f lk))).slots = (bndF (plc (L.map funsOf).flatten) (cfOf nm (fndE nm md (imsE E md)) 700 f lk)).slots := rfl
    omega
/-- What a run of what is built gives. -/
theorem runs_of {E : Nm → Option Mod} {L : List Md} (h : ∀ m ∈ L, GoodM E m ∧ m.now.length ≤ 600) {k : Nat} {F : PF} (hF : (L.map (pfsM (plN (plc (L.map funsOf).flatten)) E)).flatten[k]? = some F) (args : List Int) (ha : args.length = F.params.length) (n fuel : Nat) (R : Int × Nat)
    (hR : runV (L.map (pfsM (plN (plc (L.map funsOf).flatten)) E)).flatten n k args fuel = R) (h9 : R.2 ≠ 99) : Runs ((linkP (L.map funsOf)).map fnOf) k args fuel R := by
  obtain ⟨s1, t, n', h1, h2, h3, h4, h5⟩ := run_plain (link_linked h) (by omega) n k F hF args ha fuel (by rw [hR]; exact h9)
  exact ⟨s1, t, n', h1, h2, h3, h4, h5.trans hR⟩
end Go.Proofs.YtpmmjkiclngpmaaGreatDoor

/- What is kept is what would be made: an object whose text is the module's and whose use list still holds is the one that compiling the module now gives. -/
namespace Go.Proofs.YtpmmjkiclngpmaaGreatDoor
open Go.RowKit

/-! A signature's text says the signature. -/
def Two (t : Nat) : Prop := t = 1 ∨ t = 2
theorem tyText_head {t t' : Nat} (h : Two t) (h' : Two t') {a b : List UInt8} (e : tyText t ++ a = tyText t' ++ b) : t = t' ∧ a = b := by
  rcases h with rfl | rfl <;> rcases h' with rfl | rfl <;> simp [tyText] at e ⊢
  · exact e
  · exact e
theorem sigTail {r r' : Nat} (hr : Two r) (hr' : Two r') : ∀ {ps ps' : List Nat}, (∀ t ∈ ps, Two t) → (∀ t ∈ ps', Two t) →
    Lib.joinTail [44] (ps.map tyText) ++ [58] ++ tyText r = Lib.joinTail [44] (ps'.map tyText) ++ [58] ++ tyText r' → ps = ps' ∧ r = r'
  | [], [], _, _, e => by
    have e' : tyText r ++ [] = tyText r' ++ [] := by simpa [Lib.joinTail] using e
    exact ⟨rfl, (tyText_head hr hr' e').1⟩
  | [], y :: l, _, _, e => by simp [Lib.joinTail] at e
  | x :: l, [], _, _, e => by simp [Lib.joinTail] at e
  | x :: l, y :: l', h, h', e => by
    have e' : tyText x ++ (Lib.joinTail [44] (l.map tyText) ++ [58] ++ tyText r) = tyText y ++ (Lib.joinTail [44] (l'.map tyText) ++ [58] ++ tyText r') := by
      simpa [Lib.joinTail] using e
    obtain ⟨h1, h2⟩ := tyText_head (h x (by simp)) (h' y (by simp)) e'
    obtain ⟨h3, h4⟩ := sigTail hr hr' (fun t ht => h t (by simp [ht])) (fun t ht => h' t (by simp [ht])) h2
    exact ⟨by rw [h1, h3], h4⟩
theorem sig_inj {r r' : Nat} (hr : Two r) (hr' : Two r') {ps ps' : List Nat} (h : ∀ t ∈ ps, Two t) (h' : ∀ t ∈ ps', Two t) (e : sigText ps r = sigText ps' r') : ps = ps' ∧ r = r' := by
  unfold sigText at e
  match ps, ps' with
  | [], [] =>
    have e' : tyText r ++ [] = tyText r' ++ [] := by simpa [Lib.join_nil] using e
    exact ⟨rfl, (tyText_head hr hr' e').1⟩
  | [], y :: l =>
    rcases h' y (by simp) with rfl | rfl <;> simp [Lib.join_nil, Lib.join_cons, tyText] at e
  | x :: l, [] =>
    rcases h x (by simp) with rfl | rfl <;> simp [Lib.join_nil, Lib.join_cons, tyText] at e
  | x :: l, y :: l' =>
    have e' : tyText x ++ (Lib.joinTail [44] (l.map tyText) ++ [58] ++ tyText r) = tyText y ++ (Lib.joinTail [44] (l'.map tyText) ++ [58] ++ tyText r') := by
      simpa [Lib.join_cons] using e
    obtain ⟨h1, h2⟩ := tyText_head (h x (by simp)) (h' y (by simp)) e'
    obtain ⟨h3, h4⟩ := sigTail hr hr' (fun t ht => h t (by simp [ht])) (fun t ht => h' t (by simp [ht])) h2
    exact ⟨by rw [h1, h3], h4⟩
theorem sig_ne (ps : List Nat) (r : Nat) : sigText ps r ≠ [] := by unfold sigText; simp
/-- Two functions with the same text of a signature have the same signature. -/
theorem FOk.sig {n n' : Nat} {f g : Fun} (hf : FOk n f) (hg : FOk n' g) (e : sigText (f.params.map fun p => p.typ) f.result = sigText (g.params.map fun p => p.typ) g.result) : sigOf f = sigOf g := by
  obtain ⟨a, b⟩ := sig_inj hf.rt hg.rt (fun t ht => by obtain ⟨x, hx, rfl⟩ := List.mem_map.1 ht; exact hf.pt x hx) (fun t ht => by obtain ⟨x, hx, rfl⟩ := List.mem_map.1 ht; exact hg.pt x hx) e
  unfold sigOf; rw [a, b]
/-- What is seen of a name tells whether it is there, and its signature. -/
theorem seen_exp {x y : Option Mod} (hx : ∀ md, x = some md → MOk 601 md) (hy : ∀ md, y = some md → MOk 601 md) {n : Nm} (hn : n ≠ []) (e : seenT x n = seenT y n) :
    (expG x n = none ∧ expG y n = none) ∨ ∃ f g, expG x n = some f ∧ expG y n = some g ∧ sigOf f = sigOf g := by
  unfold seenT at e
  rw [if_neg (fun h => hn h.2), if_neg (fun h => hn h.2)] at e
  have mem : ∀ {z : Option Mod} {f : Fun}, (∀ md, z = some md → MOk 601 md) → expG z n = some f → FOk 601 f := fun {z f} hz h => by
    unfold expG at h
    cases z with
    | none => cases h
    | some md => exact (hz md rfl).fs f (firstG_mem h).1
  rcases h1 : expG x n with _ | f <;> rcases h2 : expG y n with _ | g <;> rw [h1, h2] at e <;> simp only at e
  · exact Or.inl ⟨rfl, rfl⟩
  · exact absurd e.symm (sig_ne _ _)
  · exact absurd e (sig_ne _ _)
  · exact Or.inr ⟨f, g, rfl, rfl, (mem hx h1).sig (mem hy h2) e⟩
theorem seen_nil (x y : Option Mod) (hx : ∀ md, x = some md → MOk 601 md) (hy : ∀ md, y = some md → MOk 601 md) (e : seenT x [] = seenT y []) : x.isSome = y.isSome := by
  cases x with
  | none => cases y with
    | none => rfl
    | some b => simp [seenT, expG] at e
  | some a => cases y with
    | none => simp [seenT, expG] at e
    | some b => rfl

/-! What a name's looking up sees is all that its answer hangs on. -/
theorem imports_agree {E E0 : Nm → Option Mod} (hE : EOk E) (hE0 : EOk E0) {n : Nm} (hn : n ≠ []) : ∀ (l : List Imp), (∀ u ∈ useI n (l.zip (l.map fun i => E0 i.name)), seenT (E u.m) u.n = seenT (E0 u.m) u.n) →
    useI n (l.zip (l.map fun i => E i.name)) = useI n (l.zip (l.map fun i => E0 i.name)) ∧ whoI n (l.zip (l.map fun i => E i.name)) = whoI n (l.zip (l.map fun i => E0 i.name)) ∧
      (lookI n (l.map fun i => E i.name)).map sigOf = (lookI n (l.map fun i => E0 i.name)).map sigOf
  | [], _ => ⟨rfl, rfl, rfl⟩
  | i :: r, h => by
    rw [List.map_cons, List.map_cons, List.zip_cons_cons, List.zip_cons_cons, lookI_exp, lookI_exp]
    have hs : seenT (E i.name) n = seenT (E0 i.name) n := h ⟨i.name, n, seenT (E0 i.name) n⟩ (by rw [List.map_cons, List.zip_cons_cons]; unfold useI; simp)
    unfold useI whoI
    simp only
    rcases seen_exp (fun md h => hE _ md h) (fun md h => hE0 _ md h) hn hs with ⟨h1, h2⟩ | ⟨f, g, h1, h2, h3⟩
    · rw [h1, h2]
      simp only
      obtain ⟨a, b, c⟩ := imports_agree hE hE0 hn r (fun u hu => h u (by rw [List.map_cons, List.zip_cons_cons]; unfold useI; rw [h2]; simp [hu]))
      exact ⟨by rw [a, hs], b, c⟩
    · rw [h1, h2]
      refine ⟨by simp only [hs], by simp only, ?_⟩
      simp only [Option.map_some, h3]
theorem name_agree {E E0 : Nm → Option Mod} (hE : EOk E) (hE0 : EOk E0) (nm : Nm) (md : Mod) {n : Nm} (hn : n ≠ []) (h : ∀ u ∈ useV md (imsE E0 md) n, seenT (E u.m) u.n = seenT (E0 u.m) u.n) :
    useV md (imsE E md) n = useV md (imsE E0 md) n ∧ symV nm md (imsE E md) n = symV nm md (imsE E0 md) n ∧ lookV md (imsE E md) n = lookV md (imsE E0 md) n := by
  unfold useV symV lookV imsE at *
  rcases hf : firstG false n md.funs with _ | f
  · rw [hf] at h
    simp only at h ⊢
    obtain ⟨a, b, c⟩ := imports_agree hE hE0 hn md.imports h
    exact ⟨a, by rw [b], c⟩
  · exact ⟨rfl, rfl, rfl⟩
theorem useV_lim {md : Mod} (hok : MOk 601 md) (E : Nm → Option Mod) (n : Nm) : (useV md (imsE E md) n).length ≤ 1000 := by
  unfold useV
  split
  · simp
  · have h := useI_len n (md.imports.zip (imsE E md))
    have := hok.il
    rw [List.length_zip] at h
    omega
theorem calls_ne {E : Nm → Option Mod} {md : Mod} (hE : EOk E) (hok : MOk 601 md) (h0 : (chkE E md).code = 0) {n : Nm} (hn : CallsM 700 md.funs n) : n ≠ [] := by
  obtain ⟨h1, _⟩ := modK_ok hok.trees (by simp [ptsE]) h0
  obtain ⟨f, hf, hc⟩ := hn
  have hk : (lookV md (imsE E md) n).isSome = true := CallsIn.shp (h1 f hf) hc
  rcases hg : firstG false n md.funs with _ | g
  · have hk' : ((lookI n (imsE E md)).map sigOf).isSome = true := by unfold lookV at hk; rw [hg] at hk; exact hk
    rw [Option.isSome_map] at hk'
    obtain ⟨g, hg⟩ := Option.isSome_iff_exists.1 hk'
    obtain ⟨a, md', b, c⟩ := lookI_mem hg
    unfold imsE at b
    obtain ⟨i, _, hi⟩ := List.mem_map.1 b
    rw [← a]; exact ((hE _ _ hi).fs g c).ne
  · obtain ⟨a, b⟩ := firstG_mem hg
    rw [← b]; exact (hok.fs g a).ne
theorem compactL_has {x : Nm × Nm} (l : List (Nm × Nm)) : x ∈ l → x ∈ compactL l := by
  have key : ∀ (n : Nat) (l : List (Nm × Nm)), l.length = n → x ∈ l → x ∈ compactL l := by
    intro n
    induction n with
    | zero => intro l hl h; rw [List.eq_nil_of_length_eq_zero hl] at h; cases h
    | succ n ih =>
      intro l hl h
      obtain ⟨a, y, rfl⟩ : ∃ a y, l = a ++ [y] := ⟨l.dropLast, l.getLast (by intro e; rw [e] at hl; simp at hl), (List.dropLast_concat_getLast _).symm⟩
      rw [compactL_snoc]
      rcases List.mem_append.1 h with h | h
      · have := ih a (by simpa using hl) h
        unfold cstep
        split
        · exact this
        · exact List.mem_append.2 (Or.inl this)
      · have e : x = y := by simpa using h
        subst e
        exact List.mem_of_getLast? (cstep_last _ _)
  exact key _ l rfl
theorem usesOf_has {sf : Nm × Nm → List UInt8} {l : List (Nm × Nm)} {x : Nm × Nm} (h : x ∈ l) : entU sf x ∈ usesOf sf l := by
  unfold usesOf
  refine List.mem_map.2 ⟨x, compactL_has _ ?_, rfl⟩
  unfold sortL
  exact (List.mergeSort_perm _ _).mem_iff.2 h
/-- Where all that was looked up is seen as then, the module is compiled to the same. -/
theorem comp_agree {E E0 : Nm → Option Mod} (hE : EOk E) (hE0 : EOk E0) (nm : Nm) {md : Mod} (hok : MOk 601 md) (h0 : (chkE E0 md).code = 0) (h : ∀ u ∈ usesE nm E0 md, seenT (E u.m) u.n = u.s) :
    chkE E md = chkE E0 md ∧ objE nm E md = objE nm E0 md ∧ usesE nm E md = usesE nm E0 md := by
  have hkey : ∀ x ∈ (objE nm E0 md).2.map keyU ++ md.imports.map fun i => (i.name, []), sfE E x = sfE E0 x := fun x hx => h (entU (sfE E0) x) (usesOf_has hx)
  have hcall : ∀ n, CallsM 700 md.funs n → useV md (imsE E md) n = useV md (imsE E0 md) n ∧ symV nm md (imsE E md) n = symV nm md (imsE E0 md) n ∧ lookV md (imsE E md) n = lookV md (imsE E0 md) n := fun n hn => by
    refine name_agree hE hE0 nm md (calls_ne hE0 hok h0 hn) fun u hu => ?_
    have hm : u ∈ (objE nm E0 md).2 := by
      unfold objE
      rw [compK_mem hok.trees]
      refine Or.inr ⟨n, hn, ?_⟩
      show u ∈ (useV md (imsE E0 md) n).take 1000
      rw [List.take_of_length_le (useV_lim hok E0 n)]
      exact hu
    exact hkey (keyU u) (List.mem_append.2 (Or.inl (List.mem_map.2 ⟨u, hm, rfl⟩)))
  have himp : (ptsE E md).map Option.isSome = (ptsE E0 md).map Option.isSome := by
    unfold ptsE
    rw [List.map_map, List.map_map]
    refine List.map_congr_left fun i hi => ?_
    show ((E i.name).map _).isSome = ((E0 i.name).map _).isSome
    rw [Option.isSome_map, Option.isSome_map]
    exact seen_nil _ _ (fun md h => hE _ md h) (fun md h => hE0 _ md h) (hkey (i.name, []) (List.mem_append.2 (Or.inr (List.mem_map.2 ⟨i, hi, rfl⟩))))
  have hchk : chkE E md = chkE E0 md := by
    unfold chkE
    refine modK_congr (fun n hn => ?_) himp
    obtain ⟨a, b, c⟩ := hcall n hn
    exact ⟨c, by show (useV md (imsE E md) n).take 1000 = (useV md (imsE E0 md) n).take 1000; rw [a]⟩
  have hobj : objE nm E md = objE nm E0 md := by
    unfold objE
    rw [hchk]
    refine congrFun (compK_congr nm fun n hn => ?_) _
    obtain ⟨a, b, c⟩ := hcall n hn
    exact ⟨b, by show (useV md (imsE E md) n).take 1000 = (useV md (imsE E0 md) n).take 1000; rw [a]⟩
  refine ⟨hchk, hobj, ?_⟩
  unfold usesE
  rw [hobj]
  unfold usesOf
  refine List.map_congr_left fun x hx => ?_
  have hx' := compactL_mem _ hx
  unfold sortL at hx'
  have := hkey x ((List.mergeSort_perm _ _).mem_iff.1 hx')
  unfold entU
  rw [this]
/-- What is kept is what would be made. -/
theorem curr_comp {E : Nm → Option Mod} (hE : EOk E) {m : Md} (hM : ∀ o, m.obj = some o → Made m.name o) (hc : curr E m = true) : (compM E m).1.1 = 0 ∧ (compM E m).2 = m.obj := by
  unfold curr at hc
  rcases ho : m.obj with _ | o
  · rw [ho] at hc; cases hc
  · rw [ho] at hc
    simp only [Bool.and_eq_true, beq_iff_eq] at hc
    obtain ⟨h1, h2, E0, md, hE0, hf, h0, hfs, hus⟩ := hM o ho
    have hok := formOf_ok h2 hf
    have hu : ∀ u ∈ usesE m.name E0 md, seenT (E u.m) u.n = u.s := fun u hu => by
      rw [← hus] at hu
      have := List.all_eq_true.1 hc.2 u hu
      simpa [holdsU] using this
    obtain ⟨a, b, c⟩ := comp_agree hE hE0 m.name hok h0 hu
    unfold compM
    rw [← hc.1, hf]
    simp only
    rw [a, b, c, h0, if_pos rfl]
    exact ⟨rfl, by rw [← hfs, ← hus]⟩

/-! So a Build gives what it would give in a new store. -/
def madeM (E : Nm → Option Mod) (m : Md) : Md := { m with obj := (compM E m).2 }
def toldM (E : Nm → Option Mod) (m : Md) : Option Dg := if (compM E m).1.1 = 0 then none else some ⟨m.name, (compM E m).1.1, (compM E m).1.2⟩
theorem buildM_new {E : Nm → Option Mod} (hE : EOk E) {m : Md} (hM : ∀ o, m.obj = some o → Made m.name o) : buildM E m = madeM E m ∧ diagM E m = toldM E m := by
  unfold buildM diagM madeM toldM
  rcases hc : curr E m with _ | _
  · exact ⟨rfl, rfl⟩
  · obtain ⟨a, b⟩ := curr_comp hE hM hc
    rw [b, a]
    simp
/-- Two lists of modules with the same texts. -/
def SameT (L L' : List Md) : Prop := (L.map fun m => (m.name, m.now)) = L'.map fun m => (m.name, m.now)
theorem SameT.getM {L L' : List Md} (h : SameT L L') (z : Nm) : (getM L z).map (fun m => m.now) = (getM L' z).map fun m => m.now := by
  induction L generalizing L' with
  | nil => cases L' with
    | nil => rfl
    | cons y r => simp [SameT] at h
  | cons x l ih => cases L' with
    | nil => simp [SameT] at h
    | cons y r =>
      unfold SameT at h
      simp only [List.map_cons, List.cons.injEq, Prod.mk.injEq] at h
      unfold Proofs.YtpmmjkiclngpmaaGreatDoor.getM at *
      rw [List.find?_cons, List.find?_cons, h.1.1]
      rcases (y.name == z) with _ | _
      · exact ih h.2
      · simp only [Option.map_some, h.1.2]
theorem compM_text (E : Nm → Option Mod) {m m' : Md} (h1 : m.name = m'.name) (h2 : m.now = m'.now) : compM E m = compM E m' := by
  unfold compM; rw [h1, h2]
theorem SameT.told {L L' : List Md} (h : SameT L L') (E : Nm → Option Mod) : L.map (madeM E) = L'.map (madeM E) ∧ L.filterMap (toldM E) = L'.filterMap (toldM E) := by
  induction L generalizing L' with
  | nil => cases L' with
    | nil => exact ⟨rfl, rfl⟩
    | cons y r => simp [SameT] at h
  | cons x l ih => cases L' with
    | nil => simp [SameT] at h
    | cons y r =>
      unfold SameT at h
      simp only [List.map_cons, List.cons.injEq, Prod.mk.injEq] at h
      obtain ⟨a, b⟩ := ih h.2
      have hc := compM_text E h.1.1 h.1.2
      have e1 : madeM E x = madeM E y := by
        unfold madeM
        rw [hc]
        obtain ⟨n1, t1, o1⟩ := x
        obtain ⟨n2, t2, o2⟩ := y
        simp only at h
        rw [h.1.1, h.1.2]
      have e2 : toldM E x = toldM E y := by unfold toldM; rw [hc, h.1.1]
      refine ⟨by rw [List.map_cons, List.map_cons, e1, a], ?_⟩
      rw [List.filterMap_cons, List.filterMap_cons, e2, b]
theorem diagsL_new {s : Sto} (hs : ∀ m ∈ s.L, m.name.length ≤ 8 ∧ m.now.length ≤ 600) (hM : StM s) : diagsL (formE s.L) s.L = s.L.filterMap (toldM (formE s.L)) ∧ s.L.map (buildM (formE s.L)) = s.L.map (madeM (formE s.L)) := by
  have hE := EOk_of hs
  refine ⟨?_, List.map_congr_left fun m hm => (buildM_new hE (hM m hm)).1⟩
  unfold diagsL
  generalize formE s.L = E at *
  have key : ∀ l : List Md, (∀ m ∈ l, ∀ o, m.obj = some o → Made m.name o) → l.filterMap (diagM E) = l.filterMap (toldM E) := by
    intro l
    induction l with
    | nil => intro _; rfl
    | cons x r ih =>
      intro h
      rw [List.filterMap_cons, List.filterMap_cons, (buildM_new hE (h x (by simp))).2, ih fun m hm => h m (by simp [hm])]
  exact key _ hM
/-- BEHIND A BUILD ALL IS AS IN A NEW STORE with these texts. -/
theorem build_same {s t : Sto} (hs : ∀ m ∈ s.L, m.name.length ≤ 8 ∧ m.now.length ≤ 600) (ht : ∀ m ∈ t.L, m.name.length ≤ 8 ∧ m.now.length ≤ 600) (hM : StM s) (hM' : StM t) (h : SameT s.L t.L) :
    (buildS s).1 = (buildS t).1 ∧ (buildS s).2.L = (buildS t).2.L ∧ (buildS s).2.img = (buildS t).2.img := by
  have hE : formE s.L = formE t.L := formE_same fun z => h.getM z
  obtain ⟨a, b⟩ := diagsL_new hs hM
  obtain ⟨c, d⟩ := diagsL_new ht hM'
  obtain ⟨e, f⟩ := h.told (formE t.L)
  have g1 : diagsL (formE s.L) s.L = diagsL (formE t.L) t.L := by rw [a, c, hE, f]
  have g2 : s.L.map (buildM (formE s.L)) = t.L.map (buildM (formE t.L)) := by rw [b, d, hE, e]
  refine ⟨g1, g2, ?_⟩
  show (if diagsL (formE s.L) s.L = [] then some (linkP ((s.L.map (buildM (formE s.L))).map funsOf)) else none) = if diagsL (formE t.L) t.L = [] then some (linkP ((t.L.map (buildM (formE t.L))).map funsOf)) else none
  rw [g1, g2]
end Go.Proofs.YtpmmjkiclngpmaaGreatDoor

/- A program with which nothing is wrong always comes to an answer: each variable has its place, each call as many values as its function takes, each operator as many as it wants. -/
namespace Go.Proofs.YtpmmjkiclngpmaaGreatDoor
open Go.RowKit

/-- Variables are in the scope; calls hand over as many values as it takes. -/
def Wl (ar : Nm → Option Nat) : Nat → List Nm → Ex → Prop
  | 0, _, _ => False
  | m + 1, sc, e => (e.kind = 2 → 0 ≤ slotI sc e.name) ∧ (e.kind = 3 → ar e.name = some e.parts.length) ∧
      (e.kind = 6 → ∀ a b, e.parts = [a, b] → Wl ar m sc a ∧ Wl ar m (sc ++ [e.name]) b) ∧ (e.kind ≠ 6 → ∀ x ∈ e.parts, Wl ar m sc x)
theorem slotR_in (name : Nm) : ∀ l : List Nm, l ≠ [] → 0 ≤ slotR name l ∧ slotR name l < l.length
  | [], h => absurd rfl h
  | x :: r, _ => by
    unfold slotR
    rw [List.length_cons]
    split
    · next h =>
      have := slotR_in name r (fun e => by rw [e] at h; simp at h)
      omega
    · omega
theorem slotI_lt {name : Nm} {sc : List Nm} (h : 0 ≤ slotI sc name) : (slotI sc name).toNat < sc.length := by
  unfold slotI at *
  by_cases e : sc = []
  · subst e; simp [slotR] at h
  · have := slotR_in name sc.reverse (by simpa using e)
    rw [List.length_reverse] at this
    omega
theorem slotI_find {name : Nm} {sc : List (Nm × Nat)} {t : Nat} (h : findV name sc.reverse = some t) : 0 ≤ slotI (sc.map Prod.fst) name := by
  refine (slotR_in name _ fun e => ?_).1
  have e' : sc = [] := by simpa using e
  subst e'
  cases h
section
variable {g : Ex → KS → Nat × KS} {Q : List Nm → Ex → Prop} {sc : List (Nm × Nat)}
theorem mustK_well {want : Nat} {e : Ex} {s : KS} (h : ∀ s : KS, (g e s).2.code = 0 → s.code = 0 ∧ Q (s.scope.map Prod.fst) e) (hc : (mustK g want e s).code = 0) : s.code = 0 ∧ Q (s.scope.map Prod.fst) e := by
  unfold mustK at hc
  split at hc
  · exact absurd hc (tell_code _ (by omega) _)
  · exact h s hc
theorem allK_well {want : Nat} {l : List Ex} (h : ∀ x ∈ l, ∀ s : KS, (g x s).2.code = 0 → s.code = 0 ∧ Q (s.scope.map Prod.fst) x) (hs : ∀ x ∈ l, ∀ s, (g x s).2.scope = s.scope) : ∀ {s : KS}, (allK g want l s).code = 0 → s.code = 0 ∧ ∀ x ∈ l, Q (s.scope.map Prod.fst) x := by
  induction l with
  | nil => intro s hc; exact ⟨hc, fun x hx => by cases hx⟩
  | cons x r ih =>
    intro s hc
    obtain ⟨a, b⟩ := ih (fun y hy => h y (by simp [hy])) (fun y hy => hs y (by simp [hy])) (s := mustK g want x s) hc
    obtain ⟨c, d⟩ := mustK_well (h x (by simp)) a
    rw [mustK_scope (hs x (by simp))] at b
    exact ⟨c, fun y hy => by rcases List.mem_cons.1 hy with rfl | hy; exact d; exact b y hy⟩
theorem argsK_well {l : List Ex} (h : ∀ x ∈ l, ∀ s : KS, (g x s).2.code = 0 → s.code = 0 ∧ Q (s.scope.map Prod.fst) x) (hs : ∀ x ∈ l, ∀ s, (g x s).2.scope = s.scope) : ∀ {ts : List Nat} {s : KS}, (argsK g l ts s).code = 0 → s.code = 0 ∧ ∀ x ∈ l, Q (s.scope.map Prod.fst) x := by
  induction l with
  | nil => intro ts s hc; refine ⟨?_, fun x hx => by cases hx⟩; cases ts <;> exact hc
  | cons x r ih =>
    intro ts s hc
    cases ts with
    | nil => exact allK_well h hs hc
    | cons t ts =>
      obtain ⟨a, b⟩ := ih (fun y hy => h y (by simp [hy])) (fun y hy => hs y (by simp [hy])) (ts := ts) (s := mustK g t x s) hc
      obtain ⟨c, d⟩ := mustK_well (h x (by simp)) a
      rw [mustK_scope (hs x (by simp))] at b
      exact ⟨c, fun y hy => by rcases List.mem_cons.1 hy with rfl | hy; exact d; exact b y hy⟩
end
def arOf (look : Look) (n : Nm) : Option Nat := (look.sig n).map fun x => x.1.length
set_option maxHeartbeats 1600000 in
theorem ty_well (look : Look) (m : Nat) : ∀ (e : Ex), Shp (fun _ => True) m e → Leafy m e → ∀ s : KS, (tyN look m e s).2.code = 0 → s.code = 0 ∧ Wl (arOf look) m (s.scope.map Prod.fst) e := by
  induction m with
  | zero => intro e h; exact absurd h (by simp [Shp])
  | succ m ih =>
    intro e h hlf s hc
    obtain ⟨q1, q4, q5, q6, q3, hp⟩ := h
    obtain ⟨l0, lp⟩ := hlf
    have ihp : ∀ x ∈ e.parts, ∀ s : KS, (tyN look m x s).2.code = 0 → s.code = 0 ∧ Wl (arOf look) m (s.scope.map Prod.fst) x := fun x hx s => ih x (hp x hx) (lp x hx) s
    have ihs : ∀ x ∈ e.parts, ∀ s : KS, (tyN look m x s).2.scope = s.scope := fun x _ s => tyN_scope look m x s
    have noparts : e.kind ≤ 2 → ∀ x ∈ e.parts, Wl (arOf look) m (s.scope.map Prod.fst) x := fun hk x hx => by rw [l0 hk] at hx; cases hx
    have fin : e.kind ≠ 2 → e.kind ≠ 3 → e.kind ≠ 6 → (∀ x ∈ e.parts, Wl (arOf look) m (s.scope.map Prod.fst) x) → Wl (arOf look) (m + 1) (s.scope.map Prod.fst) e := fun a b c d => ⟨fun h => absurd h a, fun h => absurd h b, fun h => absurd h c, fun _ => d⟩
    unfold tyN at hc
    split at hc
    · next hk => exact ⟨hc, fin (by omega) (by omega) (by omega) (noparts (by omega))⟩
    split at hc
    · next hk =>
      unfold varK at hc
      split at hc
      · next t ht => exact ⟨hc, fun _ => slotI_find ht, fun h => by omega, fun h => by omega, fun _ => noparts (by omega)⟩
      · exact absurd hc (tell_code _ (by omega) _)
    split at hc
    · next hk =>
      unfold callK at hc
      split at hc
      · next hl =>
        have := (allK_well (Q := fun _ _ => True) (fun x hx s hc => ⟨(ihp x hx s hc).1, trivial⟩) ihs hc).1
        exact absurd this (tell_code _ (by omega) _)
      · next ps r hl =>
        have hsc : (if e.parts.length = ps.length then s.saw (look.use e.name) else (s.saw (look.use e.name)).tell 7 e.place).scope = s.scope := by
          split
          · rfl
          · exact tell_scope _ _ _
        obtain ⟨a, b⟩ := argsK_well (Q := Wl (arOf look) m) ihp ihs hc
        rw [hsc] at b
        split at a
        · next hlen => exact ⟨a, fun h => by omega, fun _ => by unfold arOf; rw [hl]; simp [hlen], fun h => by omega, fun _ => b⟩
        · exact absurd a (tell_code _ (by omega) _)
    split at hc
    · next hk =>
      have hl1 := q4 hk
      match hpp : e.parts, hl1 with
      | [a], _ =>
        rw [hpp] at hc
        obtain ⟨x, y⟩ := ihp a (by rw [hpp]; simp) s hc
        exact ⟨x, fin (by omega) (by omega) (by omega) (by rw [hpp]; intro z hz; simp at hz; subst hz; exact y)⟩
    split at hc
    · next hk =>
      obtain ⟨a, b, c, hpp⟩ := len3 (q5 hk)
      rw [hpp] at hc
      simp only [ifK] at hc
      have sa : (mustK (tyN look m) 2 a s).scope = s.scope := mustK_scope (ihs a (by rw [hpp]; simp))
      obtain ⟨x1, y1⟩ := mustK_well (Q := Wl (arOf look) m) (ihp c (by rw [hpp]; simp)) hc
      obtain ⟨x2, y2⟩ := ihp b (by rw [hpp]; simp) _ x1
      obtain ⟨x3, y3⟩ := mustK_well (Q := Wl (arOf look) m) (ihp a (by rw [hpp]; simp)) x2
      rw [tyN_scope, sa] at y1
      rw [sa] at y2
      exact ⟨x3, fin (by omega) (by omega) (by omega) (by rw [hpp]; intro z hz; simp at hz; rcases hz with rfl | rfl | rfl; exact y3; exact y2; exact y1)⟩
    split at hc
    · next hk =>
      obtain ⟨a, b, hpp⟩ := len2 (q6 hk)
      rw [hpp] at hc
      simp only [letK] at hc
      obtain ⟨x1, y1⟩ := ihp b (by rw [hpp]; simp) _ hc
      obtain ⟨x2, y2⟩ := ihp a (by rw [hpp]; simp) _ x1
      refine ⟨x2, fun h => by omega, fun h => by omega, fun _ a' b' hab => ?_, fun h => absurd hk h⟩
      rw [hpp] at hab
      simp only [List.cons.injEq, and_true] at hab
      obtain ⟨rfl, rfl⟩ := hab
      refine ⟨y2, ?_⟩
      simp only [tyN_scope, List.map_append, List.map_cons, List.map_nil] at y1
      exact y1
    split at hc
    · next hk => obtain ⟨x, y⟩ := allK_well (Q := Wl (arOf look) m) ihp ihs hc; exact ⟨x, fin (by omega) (by omega) (by omega) y⟩
    split at hc
    · next hk => obtain ⟨x, y⟩ := allK_well (Q := Wl (arOf look) m) ihp ihs hc; exact ⟨x, fin (by omega) (by omega) (by omega) y⟩
    · next h1 h2 h3 h4 h5 h6 h7 h8 => obtain ⟨x, y⟩ := allK_well (Q := Wl (arOf look) m) ihp ihs hc; exact ⟨x, fin h2 h3 h6 y⟩
theorem prmsK_scope' : ∀ (l : List Prm) (L : List Nm) (s : KS), (prmsK l L s).scope.map Prod.fst = s.scope.map Prod.fst ++ l.map fun x => x.name := by
  intro l
  induction l with
  | nil => intro L s; simp [prmsK]
  | cons x r ih =>
    intro L s
    unfold prmsK
    rw [ih]
    simp [addV, onceK_scope]
theorem mod_well {look : Look} {m : Nat} : ∀ {l : List Fun}, (∀ f ∈ l, Shp (fun _ => True) (m + 1) f.body ∧ Leafy (m + 1) f.body) → ∀ {s : KS}, (funsK look m l s).code = 0 → s.code = 0 ∧ ∀ f ∈ l, Wl (arOf look) (m + 1) (f.params.map fun x => x.name) f.body := by
  intro l
  induction l with
  | nil => intro _ s hc; exact ⟨hc, fun f hf => by cases hf⟩
  | cons f r ih =>
    intro h s hc
    obtain ⟨a, b⟩ := ih (fun x hx => h x (by simp [hx])) (s := funK look m f s) hc
    unfold funK at a
    obtain ⟨c, d⟩ := mustK_well (Q := Wl (arOf look) (m + 1)) (fun s hs => ty_well look (m + 1) f.body (h f (by simp)).1 (h f (by simp)).2 s hs) a
    rw [prmsK_scope'] at d
    refine ⟨prmsK_code (s := { s with scope := [] }) c, fun x hx => ?_⟩
    rcases List.mem_cons.1 hx with rfl | hx
    · simpa using d
    · exact b x hx
theorem chk_well {E : Nm → Option Mod} {md : Mod} (hok : MOk 601 md) (h : (chkE E md).code = 0) : ∀ f ∈ md.funs, Wl (fun n => (lookV md (imsE E md) n).map fun x => x.1.length) 701 (f.params.map fun x => x.name) f.body := by
  unfold chkE modK at h
  exact (mod_well hok.trees h).2

/-! An evaluation with turns enough tells. -/
theorem evs_tells {g : Nat → Ex → Int × Nat × Nat} : ∀ (l : List Ex) (f : Nat), (∀ x ∈ l, ∀ f', f' ≤ f → (g f' x).2.2 ≠ 99 ∧ (g f' x).2.1 ≤ f') → (evs g f l).2.2 ≠ 99 ∧ (evs g f l).2.1 ≤ f ∧ ((evs g f l).2.2 = 0 → (evs g f l).1.length = l.length)
  | [], f, _ => ⟨by simp [evs], by simp [evs], fun _ => rfl⟩
  | e :: r, f, h => by
    obtain ⟨a, b⟩ := h e (by simp) f (Nat.le_refl _)
    unfold evs
    split
    · next h0 =>
      obtain ⟨c, d, k⟩ := evs_tells r (g f e).2.1 (fun x hx f' hf => h x (by simp [hx]) f' (by omega))
      exact ⟨c, by show (evs g (g f e).2.1 r).2.1 ≤ f; omega, fun hz => by show (_ :: _).length = _; rw [List.length_cons, List.length_cons, k hz]⟩
    · next h0 => exact ⟨a, b, fun hz => absurd hz h0⟩
theorem opv_tells {k : Nat} {l : List Int} (f : Nat) (hk : 7 ≤ k) (hk2 : k < 15) (h2 : k < 13 → l.length = 2) (h1 : 13 ≤ k → l.length = 1) : (opv k l f).2.2 ≠ 99 ∧ (opv k l f).2.1 ≤ f := by
  by_cases hq : k < 13
  · match l, h2 hq with
    | [a, b], _ =>
      unfold opv
      simp only
      rw [if_pos ⟨hk, hq⟩]
      split <;> exact ⟨by simp, by simp⟩
  · match l, h1 (by omega) with
    | [a], _ =>
      unfold opv
      simp only
      rw [if_pos (by omega)]
      exact ⟨by simp, by simp⟩
/-- What a program's functions are, so that each call finds one. -/
def WellP (M : Nat) (Fs : List PF) : Prop := ∀ (k : Nat) (F : PF), Fs[k]? = some F → Wl (fun n => (Fs[F.cal n]?).map fun (G : PF) => G.params.length) M F.params F.body ∧ Shp (fun _ => True) M F.body ∧ Leafy M F.body ∧ Armed M F.body
set_option maxHeartbeats 3200000 in
theorem ev_tells {M : Nat} {Fs : List PF} (hW : WellP M Fs) : ∀ (n d : Nat) (cal : Nm → Nat) (m : Nat) (sc : List Nm) (env : List Int) (f : Nat) (e : Ex), f * (M + 1) + m < n →
    Wl (fun n => (Fs[cal n]?).map fun (G : PF) => G.params.length) m sc e → Shp (fun _ => True) m e → Leafy m e → Armed m e → sc.length = env.length → (ev Fs n d cal sc env f e).2.2 ≠ 99 ∧ (ev Fs n d cal sc env f e).2.1 ≤ f := by
  intro n
  induction n with
  | zero => intro d cal m sc env f e h; omega
  | succ n ih =>
    intro d cal m sc env f e hn hw hs hlf har hl
    cases m with
    | zero => exact absurd hs (by simp [Shp])
    | succ m =>
      obtain ⟨q1, q4, q5, q6, q3, hp⟩ := hs
      obtain ⟨l0, lp⟩ := hlf
      obtain ⟨a2, a1, av, ap⟩ := har
      obtain ⟨w2, w3, w6, wp⟩ := hw
      have step : ∀ f', f' ≤ f → f' * (M + 1) + m < n := fun f' hf => by
        have := Nat.mul_le_mul_right (M + 1) hf
        omega
      have ihp : e.kind ≠ 6 → ∀ x ∈ e.parts, ∀ f', f' ≤ f → (ev Fs n d cal sc env f' x).2.2 ≠ 99 ∧ (ev Fs n d cal sc env f' x).2.1 ≤ f' := fun hk x hx f' hf => ih d cal m sc env f' x (step f' hf) (wp hk x hx) (hp x hx) (lp x hx) (ap x hx) hl
      unfold ev
      split
      · exact ⟨by simp, by simp⟩
      split
      · next hk =>
        have h0 := w2 hk
        have hlt : (slotI sc e.name).toNat < sc.length := slotI_lt h0
        rw [if_pos h0, List.getElem?_eq_getElem (by omega)]
        exact ⟨by simp, by simp⟩
      split
      · next hk =>
        match hpp : e.parts, q4 hk with
        | [a], _ => exact ihp (by omega) a (by rw [hpp]; simp) f (Nat.le_refl _)
      split
      · next hk =>
        obtain ⟨a, b, c, hpp⟩ := len3 (q5 hk)
        rw [hpp]
        simp only
        obtain ⟨x1, x2⟩ := ihp (by omega) a (by rw [hpp]; simp) f (Nat.le_refl _)
        split
        · split
          · obtain ⟨y1, y2⟩ := ihp (by omega) c (by rw [hpp]; simp) _ x2
            exact ⟨y1, Nat.le_trans y2 x2⟩
          · obtain ⟨y1, y2⟩ := ihp (by omega) b (by rw [hpp]; simp) _ x2
            exact ⟨y1, Nat.le_trans y2 x2⟩
        · exact ⟨x1, x2⟩
      split
      · next hk =>
        obtain ⟨a, b, hpp⟩ := len2 (q6 hk)
        obtain ⟨wa, wb⟩ := w6 hk a b hpp
        have ma : a ∈ e.parts := by rw [hpp]; simp
        have mb : b ∈ e.parts := by rw [hpp]; simp
        rw [hpp]
        simp only
        obtain ⟨x1, x2⟩ := ih d cal m sc env f a (step f (Nat.le_refl _)) wa (hp a ma) (lp a ma) (ap a ma) hl
        split
        · obtain ⟨y1, y2⟩ := ih d cal m (sc ++ [e.name]) (env ++ [(ev Fs n d cal sc env f a).1]) (ev Fs n d cal sc env f a).2.1 b (step _ x2) wb (hp b mb) (lp b mb) (ap b mb) (by simp [hl])
          exact ⟨y1, Nat.le_trans y2 x2⟩
        · exact ⟨x1, x2⟩
      split
      · next hk =>
        obtain ⟨x1, x2, x3⟩ := evs_tells (g := ev Fs n d cal sc env) e.parts f (ihp (by omega))
        simp only
        split
        · next h0 =>
          split
          · exact ⟨by simp, by simp⟩
          · next hf0 =>
            split
            · exact ⟨by simp, x2⟩
            · have hc : (Fs[cal e.name]?).map (fun (G : PF) => G.params.length) = some e.parts.length := w3 hk
              rcases hF : Fs[cal e.name]? with _ | F
              · rw [hF] at hc; simp at hc
              · rw [hF] at hc
                simp only [Option.map_some, Option.some.injEq] at hc
                simp only
                rw [if_pos (by rw [x3 h0]; exact hc)]
                obtain ⟨v1, v2, v3, v4⟩ := hW _ F hF
                have hle : ((evs (ev Fs n d cal sc env) f e.parts).2.1 - 1) * (M + 1) + M < n := by
                  have h1 : (evs (ev Fs n d cal sc env) f e.parts).2.1 - 1 + 1 ≤ f := by omega
                  have h2 := Nat.mul_le_mul_right (M + 1) h1
                  rw [Nat.add_mul] at h2
                  omega
                obtain ⟨y1, y2⟩ := ih (d - 1) F.cal M F.params (evs (ev Fs n d cal sc env) f e.parts).1 ((evs (ev Fs n d cal sc env) f e.parts).2.1 - 1) F.body hle v1 v2 v3 v4 (by rw [x3 h0]; exact hc)
                exact ⟨y1, by omega⟩
        · exact ⟨x1, x2⟩
      · next h1 h2 h3 h4 h5 h6 =>
        obtain ⟨x1, x2, x3⟩ := evs_tells (g := ev Fs n d cal sc env) e.parts f (ihp h5)
        simp only
        split
        · next h0 =>
          have hk7 : 7 ≤ e.kind := by omega
          obtain ⟨y1, y2⟩ := opv_tells (l := (evs (ev Fs n d cal sc env) f e.parts).1) (evs (ev Fs n d cal sc env) f e.parts).2.1 hk7 q1 (fun h => by rw [x3 h0]; exact a2 ⟨hk7, h⟩) (fun h => by rw [x3 h0]; exact a1 h)
          exact ⟨y1, Nat.le_trans y2 x2⟩
        · exact ⟨x1, x2⟩
theorem runV_tells {M : Nat} {Fs : List PF} (hW : WellP M Fs) {k : Nat} {F : PF} (hF : Fs[k]? = some F) (args : List Int) (ha : args.length = F.params.length) (fuel : Nat) : (runV Fs (fuel * (M + 1) + M + 1) k args fuel).2 ≠ 99 := by
  unfold runV
  split
  · simp
  · rw [hF]
    simp only
    obtain ⟨v1, v2, v3, v4⟩ := hW k F hF
    refine (ev_tells hW _ 99 F.cal M F.params args (fuel - 1) F.body ?_ v1 v2 v3 v4 ha.symm).1
    have := Nat.mul_le_mul_right (M + 1) (Nat.sub_le fuel 1)
    omega
end Go.Proofs.YtpmmjkiclngpmaaGreatDoor

/- What is built without complaint runs: each run of it comes to an answer. -/
namespace Go.Proofs.YtpmmjkiclngpmaaGreatDoor
open Go.RowKit

theorem Wl.mono {ar ar' : Nm → Option Nat} (h : ∀ n x, ar n = some x → ar' n = some x) : ∀ {m : Nat} {sc : List Nm} {e : Ex}, Wl ar m sc e → Wl ar' m sc e := by
  intro m
  induction m with
  | zero => intro sc e hw; exact hw.elim
  | succ m ih =>
    intro sc e hw
    obtain ⟨a, b, c, d⟩ := hw
    exact ⟨a, fun hk => h _ _ (b hk), fun hk x y hxy => ⟨ih (c hk x y hxy).1, ih (c hk x y hxy).2⟩, fun hk x hx => ih (d hk x hx)⟩
theorem plc_has (y : Sym) : ∀ (n : Nat) (fs : List CF), fs.length = n → (∃ c ∈ fs, symF c = y) → ∃ k c, plc fs y = some k ∧ fs[k]? = some c ∧ symF c = y := by
  intro n
  induction n with
  | zero => intro fs hl h; rw [List.eq_nil_of_length_eq_zero hl] at h; obtain ⟨c, hc, _⟩ := h; cases hc
  | succ n ih =>
    intro fs hl h
    obtain ⟨a, z, rfl⟩ : ∃ a z, fs = a ++ [z] := ⟨fs.dropLast, fs.getLast (by intro e; rw [e] at hl; simp at hl), (List.dropLast_concat_getLast _).symm⟩
    rw [plc_snoc]
    by_cases e : y = symF z
    · exact ⟨a.length, z, by simp [e], by simp, e.symm⟩
    · have h' : ∃ c ∈ a, symF c = y := by
        obtain ⟨c, hc, hy⟩ := h
        rcases List.mem_append.1 hc with hc | hc
        · exact ⟨c, hc, hy⟩
        · have : c = z := by simpa using hc
          subst this
          exact absurd hy.symm e
      obtain ⟨k, c, h1, h2, h3⟩ := ih a (by simpa using hl) h'
      refine ⟨k, c, by simp only [if_neg e]; exact h1, ?_, h3⟩
      rw [List.getElem?_append_left (List.getElem?_eq_some_iff.1 h2).1]
      exact h2
/-- A function as a run sees it. -/
def pfOf (P : Sym → Nat) (E : Nm → Option Mod) (nm : Nm) (md : Mod) (f : Fun) : PF := ⟨f.params.map fun x => x.name, f.body, fun n => P (symV nm md (imsE E md) n)⟩
def FromM (P : Sym → Nat) (E : Nm → Option Mod) (L : List Md) (c : CF) (F : PF) : Prop :=
  ∃ m ∈ L, ∃ md f lk, formOf m.now = some md ∧ (chkE E md).code = 0 ∧ f ∈ md.funs ∧ c = cfOf m.name (fndE m.name md (imsE E md)) 700 f lk ∧ F = pfOf P E m.name md f
theorem compK_from {P : Sym → Nat} {E : Nm → Option Mod} {L : List Md} {m : Md} (hm : m ∈ L) {md : Mod} (hf : formOf m.now = some md) (h0 : (chkE E md).code = 0) : ∀ (l : List Fun) (lk : List Us), (∀ f ∈ l, f ∈ md.funs) → All2 (FromM P E L) (compK m.name (fndE m.name md (imsE E md)) 700 l lk).1 (l.map (pfOf P E m.name md))
  | [], _, _ => trivial
  | f :: r, lk, h => ⟨⟨m, hm, md, f, lk, hf, h0, h f (by simp), rfl, rfl⟩, compK_from hm hf h0 r _ fun x hx => h x (by simp [hx])⟩
theorem good_from {P : Sym → Nat} {E : Nm → Option Mod} {L0 : List Md} : ∀ (L : List Md), (∀ m ∈ L, m ∈ L0 ∧ GoodM E m) → All2 (FromM P E L0) (L.map funsOf).flatten (L.map (pfsM P E)).flatten
  | [], _ => trivial
  | m :: r, h => by
    obtain ⟨hm, md, h1, h2, h3⟩ := h m (by simp)
    rw [List.map_cons, List.map_cons, List.flatten_cons, List.flatten_cons]
    refine All2.append ?_ (good_from r fun x hx => h x (by simp [hx]))
    rw [h3]
    unfold pfsM objE
    rw [h1]
    exact compK_from hm h1 h2 md.funs _ fun f hf => hf
theorem compK_has {nm : Nm} {fnd : Fnd} {m : Nat} {f : Fun} : ∀ {l : List Fun} {lk : List Us}, f ∈ l → ∃ lk', cfOf nm fnd m f lk' ∈ (compK nm fnd m l lk).1
  | g :: r, lk, h => by
    rcases List.mem_cons.1 h with rfl | h
    · exact ⟨lk, by unfold compK; simp⟩
    · obtain ⟨lk', q⟩ := compK_has (m := m) (fnd := fnd) (nm := nm) (lk := (codeOf fnd m g lk).lk) h
      exact ⟨lk', by unfold compK; simp [q]⟩
theorem names_inj {α : Type} {f : α → Nm} : ∀ {l : List α}, (l.map f).Nodup → ∀ {a b : α}, a ∈ l → b ∈ l → f a = f b → a = b
  | x :: r, h, a, b, ha, hb, e => by
    rw [List.map_cons, List.nodup_cons] at h
    rcases List.mem_cons.1 ha with rfl | ha' <;> rcases List.mem_cons.1 hb with rfl | hb'
    · rfl
    · exact absurd (List.mem_map.2 ⟨b, hb', e.symm⟩) h.1
    · exact absurd (List.mem_map.2 ⟨a, ha', e⟩) h.1
    · exact names_inj h.2 ha' hb' e
section
variable {L : List Md} {E : Nm → Option Mod}
/-- The place of a function's symbol is the function's. -/
theorem place_is (hr : Rising (names L)) (hs : ∀ m ∈ L, m.name.length ≤ 8 ∧ m.now.length ≤ 600) (h : ∀ m ∈ L, GoodM E m) {P : Sym → Nat} {m : Md} (hm : m ∈ L) {md : Mod} (hf : formOf m.now = some md) {g : Fun} (hg : g ∈ md.funs) :
    ((L.map (pfsM P E)).flatten[plN (plc (L.map funsOf).flatten) (m.name, g.name)]?).map (fun G => G.params.length) = some g.params.length := by
  have ha := good_from (P := P) (L0 := L) L fun x hx => ⟨hx, h x hx⟩
  obtain ⟨md', h1, h2, h3⟩ := h m hm
  rw [hf, Option.some.injEq] at h1
  subst h1
  have hin : ∃ c ∈ (L.map funsOf).flatten, symF c = (m.name, g.name) := by
    obtain ⟨lk', q⟩ := compK_has (nm := m.name) (fnd := fndE m.name md (imsE E md)) (m := 700) (lk := (chkE E md).lk) hg
    refine ⟨cfOf m.name (fndE m.name md (imsE E md)) 700 g lk', List.mem_flatten.2 ⟨funsOf m, List.mem_map.2 ⟨m, hm, rfl⟩, ?_⟩, rfl⟩
    rw [h3]; exact q
  obtain ⟨k, c, hk, hc, hy⟩ := plc_has _ _ _ rfl hin
  have hpl : plN (plc (L.map funsOf).flatten) (m.name, g.name) = k := by unfold plN; rw [hk]; rfl
  rw [hpl]
  have hlt : k < (L.map (pfsM P E)).flatten.length := by rw [← ha.len]; exact (List.getElem?_eq_some_iff.1 hc).1
  obtain ⟨c', hc', m', hm', md', f', lk', hf', h0', hfm, rfl, hF⟩ := ha.at (List.getElem?_eq_getElem hlt)
  rw [hc, Option.some.injEq] at hc'
  subst hc'
  have e1 : m'.name = m.name := congrArg Prod.fst hy
  have e2 : f'.name = g.name := congrArg Prod.snd hy
  have e3 : m' = m := names_inj hr.nodup hm' hm e1
  subst e3
  rw [hf, Option.some.injEq] at hf'
  subst hf'
  have hok := formOf_ok (hs _ hm).2 hf
  have hnd := (modK_ok hok.trees (by simp [ptsE]) h2).2.1
  have e4 : f' = g := names_inj hnd hfm hg e2
  subst e4
  rw [List.getElem?_eq_getElem hlt, hF]
  simp [pfOf]
theorem who_look {n : Nm} : ∀ {l : List Imp} {g : Fun}, lookI n (l.map fun i => E i.name) = some g → ∃ i ∈ l, whoI n (l.zip (l.map fun i => E i.name)) = i.name ∧ expG (E i.name) n = some g
  | [], g, h => by cases h
  | i :: r, g, h => by
    rw [List.map_cons, lookI_exp] at h
    rw [List.map_cons, List.zip_cons_cons]
    unfold whoI
    simp only
    rcases he : expG (E i.name) n with _ | f
    · rw [he] at h
      obtain ⟨j, hj, a, b⟩ := who_look h
      exact ⟨j, by simp [hj], a, b⟩
    · rw [he] at h
      simp only [Option.some.injEq] at h
      subst h
      exact ⟨i, by simp, rfl, he⟩
end
theorem linked_well {L : List Md} (hr : Rising (names L)) (hs : ∀ m ∈ L, m.name.length ≤ 8 ∧ m.now.length ≤ 600) (h : ∀ m ∈ L, GoodM (formE L) m) : WellP 701 (L.map (pfsM (plN (plc (L.map funsOf).flatten)) (formE L))).flatten := by
  intro k F hF
  have ha := good_from (P := plN (plc (L.map funsOf).flatten)) (L0 := L) L fun x hx => ⟨hx, h x hx⟩
  obtain ⟨c, hc, m, hm, md, f, lk, hf, h0, hfm, rfl, rfl⟩ := ha.at hF
  have hok := formOf_ok (hs m hm).2 hf
  have ht := hok.trees f hfm
  refine ⟨(chk_well hok h0 f hfm).mono fun n x hx => ?_, ht.1, ht.2, (hok.fs f hfm).body.arm _⟩
  show ((L.map (pfsM (plN (plc (L.map funsOf).flatten)) (formE L))).flatten[plN (plc (L.map funsOf).flatten) (symV m.name md (imsE (formE L) md) n)]?).map (fun G => G.params.length) = some x
  unfold lookV at hx
  rcases hg : firstG false n md.funs with _ | g
  · rw [hg] at hx
    simp only [Option.map_map] at hx
    rcases hl : lookI n (imsE (formE L) md) with _ | g
    · rw [hl] at hx; cases hx
    · rw [hl] at hx
      simp only [Option.map_some, Option.some.injEq] at hx
      obtain ⟨i, hi, hw, he⟩ := who_look hl
      have hsym : symV m.name md (imsE (formE L) md) n = (i.name, n) := by
        unfold symV; rw [hg]
        show (whoI n (md.imports.zip (imsE (formE L) md)), n) = _
        unfold imsE; rw [hw]
      rw [hsym]
      unfold expG at he
      rcases hE : formE L i.name with _ | md'
      · rw [hE] at he; cases he
      · rw [hE] at he
        obtain ⟨q1, q2⟩ := firstG_mem (show firstG true n md'.funs = some g from he)
        unfold formE at hE
        rcases hG : getM L i.name with _ | m'
        · rw [hG] at hE; cases hE
        · rw [hG] at hE
          have hE' : formOf m'.now = some md' := hE
          obtain ⟨p1, p2⟩ := getM_mem hG
          have := place_is hr hs h (P := plN (plc (L.map funsOf).flatten)) p1 hE' q1
          rw [p2, q2] at this
          rw [this, ← hx]
          simp [sigOf]
  · rw [hg] at hx
    simp only [Option.map_some, Option.some.injEq] at hx
    obtain ⟨q1, q2⟩ := firstG_mem hg
    have hsym : symV m.name md (imsE (formE L) md) n = (m.name, n) := by unfold symV; rw [hg]
    rw [hsym]
    have := place_is hr hs h (P := plN (plc (L.map funsOf).flatten)) hm hf q1
    rw [q2] at this
    rw [this, ← hx]
    simp [sigOf]
/-- Where nothing is told, each module is what compiling it here gives. -/
theorem built_good {s : Sto} (hs : ∀ m ∈ s.L, m.name.length ≤ 8 ∧ m.now.length ≤ 600) (hM : StM s) (hd : (buildS s).1 = []) : ∀ m ∈ (buildS s).2.L, GoodM (formE (buildS s).2.L) m := by
  have hE := EOk_of hs
  have hf : formE (buildS s).2.L = formE s.L := formE_same fun z => getM_map (buildM_name _) _ _
  rw [hf]
  intro m hm
  obtain ⟨m0, h0, rfl⟩ := List.mem_map.1 hm
  have hn := buildM_new hE (hM m0 h0)
  rw [hn.1]
  have hdd : diagsL (formE s.L) s.L = [] := hd
  unfold diagsL at hdd
  rw [List.filterMap_eq_nil_iff] at hdd
  have h1 := hdd m0 h0
  rw [hn.2] at h1
  unfold toldM at h1
  split at h1
  · next hc =>
    unfold GoodM madeM
    unfold compM at hc ⊢
    rcases hform : formOf m0.now with _ | md
    · rw [hform] at hc; simp at hc
    · rw [hform] at hc
      simp only at hc
      refine ⟨md, rfl, hc, ?_⟩
      simp only [funsOf]
      rw [if_pos hc]
      rfl
  · cases h1
theorem built_names (s : Sto) : names (buildS s).2.L = names s.L := by
  show names (s.L.map _) = _
  unfold names
  rw [List.map_map]
  exact List.map_congr_left fun m _ => (buildM_name _ m).1
theorem built_sizes {s : Sto} (hs : ∀ m ∈ s.L, m.name.length ≤ 8 ∧ m.now.length ≤ 600) : ∀ m ∈ (buildS s).2.L, m.name.length ≤ 8 ∧ m.now.length ≤ 600 := fun m hm => by
  obtain ⟨m0, h0, rfl⟩ := List.mem_map.1 hm
  rw [(buildM_name _ m0).1, (buildM_name _ m0).2]
  exact hs m0 h0
theorem funs_total : ∀ (L : List Md), (∀ m ∈ L, (funsOf m).length ≤ 601) → (L.map funsOf).flatten.length ≤ 601 * L.length
  | [], _ => by simp
  | m :: r, h => by
    have h1 := h m (by simp)
    have h2 := funs_total r fun x hx => h x (by simp [hx])
    rw [List.map_cons, List.flatten_cons, List.length_append, List.length_cons]
    omega
theorem built_imOk {s : Sto} (hs : ∀ m ∈ s.L, m.name.length ≤ 8 ∧ m.now.length ≤ 600) (hn : s.L.length ≤ 100) (hM : StM s) : ∀ fs, (buildS s).2.img = some fs → ImOk fs := by
  intro fs hfs
  have hi : (buildS s).2.img = if diagsL (formE s.L) s.L = [] then some (linkP ((buildS s).2.L.map funsOf)) else none := rfl
  rw [hi] at hfs
  split at hfs
  · next hd =>
    simp only [Option.some.injEq] at hfs
    subst hfs
    have hg := built_good hs hM hd
    refine link_imOk (E := formE (buildS s).2.L) (fun m hm => ⟨hg m hm, (built_sizes hs m hm).2⟩) ?_
    have := funs_total (buildS s).2.L fun m hm => by
      obtain ⟨md, h1, h2, h3⟩ := hg m hm
      rw [h3]
      unfold objE
      rw [compK_all.1]
      exact (formOf_ok (built_sizes hs m hm).2 h1).fl
    have hl : (buildS s).2.L.length = s.L.length := by show (s.L.map _).length = _; simp
    rw [hl] at this
    omega
  · cases hfs
/-- EACH RUN COMES TO AN ANSWER. -/
theorem run_is {s : Sto} (hr : Rising (names s.L)) (hs : ∀ m ∈ s.L, m.name.length ≤ 8 ∧ m.now.length ≤ 600) (hM : StM s) (m n : Nm) (l : List Int) (fuel : Int) : ∃ R, RunIs (buildS s).2 m n l fuel R := by
  have hi : (buildS s).2.img = if diagsL (formE s.L) s.L = [] then some (linkP ((buildS s).2.L.map funsOf)) else none := rfl
  unfold RunIs
  rw [hi]
  split
  · exact ⟨_, rfl⟩
  · next fs hfs =>
    split at hfs
    · next hd =>
      simp only [Option.some.injEq] at hfs
      subst hfs
      split
      · exact ⟨_, rfl⟩
      · next k hx =>
        have hk := exI_lt hx
        rw [Nat.zero_add] at hk
        have hg := built_good hs hM hd
        have hW := linked_well (L := (buildS s).2.L) (by rw [built_names]; exact hr) (built_sizes hs) hg
        have hgs : ∀ m ∈ (buildS s).2.L, GoodM (formE (buildS s).2.L) m ∧ m.now.length ≤ 600 := fun m hm => ⟨hg m hm, (built_sizes hs m hm).2⟩
        have ha := good_from (P := plN (plc ((buildS s).2.L.map funsOf).flatten)) (L0 := (buildS s).2.L) (E := formE (buildS s).2.L) (buildS s).2.L fun x hx => ⟨hx, hg x hx⟩
        have hlen : (linkP ((buildS s).2.L.map funsOf)).length = ((buildS s).2.L.map (pfsM (plN (plc ((buildS s).2.L.map funsOf).flatten)) (formE (buildS s).2.L))).flatten.length := by
          rw [← ha.len]; unfold linkP; rw [List.length_map]
        generalize hL : (buildS s).2.L = L at *
        have hk2 : k < (L.map (pfsM (plN (plc (L.map funsOf).flatten)) (formE L))).flatten.length := by omega
        obtain ⟨c, hc, hFr⟩ := ha.at (List.getElem?_eq_getElem hk2)
        have hlk : (linkP (L.map funsOf))[k]? = some (bndF (plc (L.map funsOf).flatten) c) := by
          unfold linkP; rw [List.getElem?_map, hc]; rfl
        by_cases q1 : l.length ≠ (bndF (plc (L.map funsOf).flatten) c).params.length
        · exact ⟨_, _, hlk, by rw [if_pos q1]⟩
        · by_cases q2 : fitB l (bndF (plc (L.map funsOf).flatten) c).params = false ∨ withinB fuel 0 10000 = false
          · exact ⟨_, _, hlk, by rw [if_neg q1, if_pos q2]⟩
          · have hpl : (bndF (plc (L.map funsOf).flatten) c).params.length = ((L.map (pfsM (plN (plc (L.map funsOf).flatten)) (formE L))).flatten[k]'hk2).params.length := by
              obtain ⟨m', hm', md', f', lk', hf', h0', hfm, rfl, hF⟩ := hFr
              rw [hF]
              simp [pfOf, bndF, cfOf]
            have har : l.length = ((L.map (pfsM (plN (plc (L.map funsOf).flatten)) (formE L))).flatten[k]'hk2).params.length := by rw [← hpl]; omega
            refine ⟨runV (L.map (pfsM (plN (plc (L.map funsOf).flatten)) (formE L))).flatten (fuel.toNat * (701 + 1) + 701 + 1) k l fuel.toNat, _, hlk, ?_⟩
            rw [if_neg q1, if_neg q2]
            exact runs_of hgs (List.getElem?_eq_getElem hk2) l har _ _ _ rfl (runV_tells hW (List.getElem?_eq_getElem hk2) l har fuel.toNat)
    · cases hfs
/-- A run hangs on the image alone. -/
theorem RunIs.img {s t : Sto} (h : s.img = t.img) {m n : Nm} {l : List Int} {fuel : Int} {R : Int × Nat} (hR : RunIs s m n l fuel R) : RunIs t m n l fuel R := by
  unfold RunIs at *
  rw [← h]; exact hR
end Go.Proofs.YtpmmjkiclngpmaaGreatDoor
