/- YtpmmjkiclngpmaaGreatDoorV01 -/
import Derived.Test.YtpmmjkiclngpmaaGreatDoorB42
import Derived.Test.YtpmmjkiclngpmaaGreatDoorB46
import Derived.Test.YtpmmjkiclngpmaaGreatDoorB44
set_option maxRecDepth 100000
set_option linter.unusedSimpArgs false
set_option linter.unusedVariables false
set_option maxHeartbeats 12800000
namespace Go.Proofs.YtpmmjkiclngpmaaGreatDoor
open Go.RowKit
def All2 {α β : Type} (Q : α → β → Prop) : List α → List β → Prop
  | [],[] => True
  | a :: l,b :: r => Q a b ∧ All2 Q l r
  | _,_ => False
theorem All2.len {α β : Type} {Q : α → β → Prop} : ∀ {l : List α} {r : List β},All2 Q l r → l.length = r.length
  | [],[],_ => rfl
  | _ :: _,_ :: _,h => by simp only [List.length_cons]; rw [h.2.len]
  | [],_ :: _,h => h.elim
  | _ :: _,[],h => h.elim
theorem All2.at {α β : Type} {Q : α → β → Prop} : ∀ {l : List α} {r : List β},All2 Q l r → ∀ {k : Nat} {b : β},r[k]? = some b → ∃ a,l[k]? = some a ∧ Q a b
  | [],[],_,k,b,h => by simp at h
  | a :: l,b :: r,hq,0,c,h => by simp at h; subst h; exact ⟨a,rfl,hq.1⟩
  | a :: l,b :: r,hq,k + 1,c,h => by
    have h' : r[k]? = some c := by simpa using h
    obtain ⟨x,h1,h2⟩ := hq.2.at h'
    exact ⟨x,by simpa using h1,h2⟩
  | [],_ :: _,h,_,_,_ => h.elim
  | _ :: _,[],h,_,_,_ => h.elim
theorem All2.append {α β : Type} {Q : α → β → Prop} : ∀ {l l' : List α} {r r' : List β},All2 Q l r → All2 Q l' r' → All2 Q (l ++ l') (r ++ r')
  | [],_,[],_,_,h => h
  | _ :: _,_,_ :: _,_,h,h' => ⟨h.1,h.2.append h'⟩
  | [],_,_ :: _,_,h,_ => h.elim
  | _ :: _,_,[],_,h,_ => h.elim
def Cmpd (P : Sym → Nat) (E : Nm → Option Mod) (c : CF) (F : PF) : Prop :=
  ∃ nm md f lk,MOk 601 md ∧ f ∈ md.funs ∧ c = cfOf nm (fndE nm md (imsE E md)) 700 f lk ∧ F = ⟨f.params.map fun x => x.name,f.body,fun n => P (symV nm md (imsE E md) n)⟩
def pfsM (P : Sym → Nat) (E : Nm → Option Mod) (m : Md) : List PF := match formOf m.now with
  | none => []
  | some md => md.funs.map fun f => ⟨f.params.map fun x => x.name,f.body,fun n => P (symV m.name md (imsE E md) n)⟩
theorem compK_cmpd {P : Sym → Nat} {E : Nm → Option Mod} {nm : Nm} {md : Mod} (hok : MOk 601 md) : ∀ (l : List Fun) (lk : List Us),(∀ f ∈ l,f ∈ md.funs) → All2 (Cmpd P E) (compK nm (fndE nm md (imsE E md)) 700 l lk).1 (l.map fun f => ⟨f.params.map fun x => x.name,f.body,fun n => P (symV nm md (imsE E md) n)⟩)
  | [],_,_ => trivial
  | f :: r,lk,h => ⟨⟨nm,md,f,lk,hok,h f (by simp),rfl,rfl⟩,compK_cmpd hok r _ fun x hx => h x (by simp [hx])⟩
def GoodM (E : Nm → Option Mod) (m : Md) : Prop := ∃ md,formOf m.now = some md ∧ (chkE E md).code = 0 ∧ funsOf m = (objE m.name E md).1
theorem good_cmpd {P : Sym → Nat} {E : Nm → Option Mod} : ∀ (L : List Md),(∀ m ∈ L,GoodM E m ∧ m.now.length ≤ 600) → All2 (Cmpd P E) (L.map funsOf).flatten (L.map (pfsM P E)).flatten
  | [],_ => trivial
  | m :: r,h => by
    obtain ⟨⟨md,h1,h2,h3⟩,hl⟩ := h m (by simp)
    rw [List.map_cons,List.map_cons,List.flatten_cons,List.flatten_cons]
    refine All2.append ?_ (good_cmpd r fun x hx => h x (by simp [hx]))
    rw [h3]
    unfold pfsM objE
    rw [h1]
    exact compK_cmpd (formOf_ok hl h1) md.funs _ fun f hf => hf
theorem Cmpd.linked {pl : Sym → Option Nat} {E : Nm → Option Mod} {c : CF} {F : PF} (h : Cmpd (plN pl) E c F) : (fnOf (bndF pl c)).params = F.params.length ∧ (fnOf (bndF pl c)).code = cg F.cal 701 F.params 0 F.body ++ [(6,0)] ∧ deep 701 F.body ∧ mx 701 F.params.length F.body ≤ (fnOf (bndF pl c)).slots ∧
    (fnOf (bndF pl c)).params ≤ (fnOf (bndF pl c)).slots ∧ (fnOf (bndF pl c)).slots + sz 701 F.body + 1 ≤ 2000 := by
  obtain ⟨nm,md,f,lk,hok,hf,rfl,rfl⟩ := h
  have hfo := hok.fs f hf
  have ht := hok.trees f hf
  have hs := codeOf_slots (fndE nm md (imsE E md)) 700 f lk ht.1 ht.2
  have hp := hfo.pl
  have hz := hfo.body.siz 701
  have hz2 := hfo.body.siz (700 + 1)
  refine ⟨?_,?_,ht.1.deep _ _,?_,?_,?_⟩
  · show (f.params.map fun x => x.typ).length = (f.params.map fun x => x.name).length
    rw [List.length_map,List.length_map]
  · exact codeOf_linked (fndE nm md (imsE E md)) (plN pl) 700 f lk
  · show mx 701 (f.params.map fun x => x.name).length f.body ≤ (codeOf (fndE nm md (imsE E md)) 700 f lk).slots
    rw [List.length_map]; exact hs.1
  · show (f.params.map fun x => x.typ).length ≤ (codeOf (fndE nm md (imsE E md)) 700 f lk).slots
    rw [List.length_map]; exact hs.2.1
  · show (codeOf (fndE nm md (imsE E md)) 700 f lk).slots + sz 701 f.body + 1 ≤ 2000
    have := hs.2.2
    omega
theorem link_linked {E : Nm → Option Mod} {L : List Md} (h : ∀ m ∈ L,GoodM E m ∧ m.now.length ≤ 600) : Linked ((linkP (L.map funsOf)).map fnOf) (L.map (pfsM (plN (plc (L.map funsOf).flatten)) E)).flatten 701 2000 := by
  intro k F hF
  obtain ⟨c,hc,hq⟩ := (good_cmpd L h).at hF
  refine ⟨fnOf (bndF (plc (L.map funsOf).flatten) c),?_,hq.linked⟩
  unfold linkP
  rw [List.map_map,List.getElem?_map,hc]
  rfl
theorem link_imOk {E : Nm → Option Mod} {L : List Md} (h : ∀ m ∈ L,GoodM E m ∧ m.now.length ≤ 600) (hn : (L.map funsOf).flatten.length ≤ 100000) : ImOk (linkP (L.map funsOf)) := by
  refine ⟨by unfold linkP; rw [List.length_map]; exact hn,fun f hf => ?_⟩
  unfold linkP at hf
  obtain ⟨c,hc,rfl⟩ := List.mem_map.1 hf
  obtain ⟨k,hk,hkc⟩ := List.getElem_of_mem hc
  have ha := good_cmpd (P := plN (plc (L.map funsOf).flatten)) L h
  have hk2 : k < (L.map (pfsM (plN (plc (L.map funsOf).flatten)) E)).flatten.length := by rw [← ha.len]; exact hk
  obtain ⟨c',hc',hq⟩ := ha.at (List.getElem?_eq_getElem hk2)
  rw [List.getElem?_eq_getElem hk,Option.some.injEq,hkc] at hc'
  subst hc'
  obtain ⟨q1,q2,q3,q4,q5,q6⟩ := hq.linked
  have hcl : (bndF (plc (L.map funsOf).flatten) c).code = _ := q2
  obtain ⟨nm,md,f,lk,hok,hfm,rfl,_⟩ := hq
  have hg := gen_grew (fndE nm md (imsE E md)) (700 + 1) f.body (enters f.params (begun lk))
  have he := enters_len f.params (begun lk) (by simp [begun])
  have hz := (hok.fs f hfm).body.siz (700 + 1)
  refine ⟨by rw [hcl]; simp,?_,?_,q5⟩
  · show ((codeOf (fndE nm md (imsE E md)) 700 f lk).code.map _).length ≤ 100000
    rw [List.length_map]
    show ((gen (fndE nm md (imsE E md)) (700 + 1) f.body (enters f.params (begun lk))).code ++ [(6,0)]).length ≤ _
    have h1 := hg.code.2
    rw [he.2.2.1,show (begun lk).code.length = 0 from rfl] at h1
    rw [List.length_append]
    simp only [List.length_cons,List.length_nil]
    omega
  · have : (fnOf (bndF (plc (L.map funsOf).flatten) (cfOf nm (fndE nm md (imsE E md)) 700 f lk))).slots = (bndF (plc (L.map funsOf).flatten) (cfOf nm (fndE nm md (imsE E md)) 700 f lk)).slots := rfl
    omega
theorem runs_of {E : Nm → Option Mod} {L : List Md} (h : ∀ m ∈ L,GoodM E m ∧ m.now.length ≤ 600) {k : Nat} {F : PF} (hF : (L.map (pfsM (plN (plc (L.map funsOf).flatten)) E)).flatten[k]? = some F) (args : List Int) (ha : args.length = F.params.length) (n fuel : Nat) (R : Int × Nat)
    (hR : runV (L.map (pfsM (plN (plc (L.map funsOf).flatten)) E)).flatten n k args fuel = R) (h9 : R.2 ≠ 99) : Runs ((linkP (L.map funsOf)).map fnOf) k args fuel R := by
  obtain ⟨s1,t,n',h1,h2,h3,h4,h5⟩ := run_plain (link_linked h) (by omega) n k F hF args ha fuel (by rw [hR]; exact h9)
  exact ⟨s1,t,n',h1,h2,h3,h4,h5.trans hR⟩
end Go.Proofs.YtpmmjkiclngpmaaGreatDoor
namespace Go.Proofs.YtpmmjkiclngpmaaGreatDoor
open Go.RowKit
def Two (t : Nat) : Prop := t = 1 ∨ t = 2
theorem tyText_head {t t' : Nat} (h : Two t) (h' : Two t') {a b : List UInt8} (e : tyText t ++ a = tyText t' ++ b) : t = t' ∧ a = b := by
  rcases h with rfl | rfl <;> rcases h' with rfl | rfl <;> simp [tyText] at e ⊢
  · exact e
  · exact e
theorem sigTail {r r' : Nat} (hr : Two r) (hr' : Two r') : ∀ {ps ps' : List Nat},(∀ t ∈ ps,Two t) → (∀ t ∈ ps',Two t) →
    Lib.joinTail [44] (ps.map tyText) ++ [58] ++ tyText r = Lib.joinTail [44] (ps'.map tyText) ++ [58] ++ tyText r' → ps = ps' ∧ r = r'
  | [],[],_,_,e => by
    have e' : tyText r ++ [] = tyText r' ++ [] := by simpa [Lib.joinTail] using e
    exact ⟨rfl,(tyText_head hr hr' e').1⟩
  | [],y :: l,_,_,e => by simp [Lib.joinTail] at e
  | x :: l,[],_,_,e => by simp [Lib.joinTail] at e
  | x :: l,y :: l',h,h',e => by
    have e' : tyText x ++ (Lib.joinTail [44] (l.map tyText) ++ [58] ++ tyText r) = tyText y ++ (Lib.joinTail [44] (l'.map tyText) ++ [58] ++ tyText r') := by
      simpa [Lib.joinTail] using e
    obtain ⟨h1,h2⟩ := tyText_head (h x (by simp)) (h' y (by simp)) e'
    obtain ⟨h3,h4⟩ := sigTail hr hr' (fun t ht => h t (by simp [ht])) (fun t ht => h' t (by simp [ht])) h2
    exact ⟨by rw [h1,h3],h4⟩
theorem sig_inj {r r' : Nat} (hr : Two r) (hr' : Two r') {ps ps' : List Nat} (h : ∀ t ∈ ps,Two t) (h' : ∀ t ∈ ps',Two t) (e : sigText ps r = sigText ps' r') : ps = ps' ∧ r = r' := by
  unfold sigText at e
  match ps,ps' with
  | [],[] =>
    have e' : tyText r ++ [] = tyText r' ++ [] := by simpa [Lib.join_nil] using e
    exact ⟨rfl,(tyText_head hr hr' e').1⟩
  | [],y :: l =>
    rcases h' y (by simp) with rfl | rfl <;> simp [Lib.join_nil,Lib.join_cons,tyText] at e
  | x :: l,[] =>
    rcases h x (by simp) with rfl | rfl <;> simp [Lib.join_nil,Lib.join_cons,tyText] at e
  | x :: l,y :: l' =>
    have e' : tyText x ++ (Lib.joinTail [44] (l.map tyText) ++ [58] ++ tyText r) = tyText y ++ (Lib.joinTail [44] (l'.map tyText) ++ [58] ++ tyText r') := by
      simpa [Lib.join_cons] using e
    obtain ⟨h1,h2⟩ := tyText_head (h x (by simp)) (h' y (by simp)) e'
    obtain ⟨h3,h4⟩ := sigTail hr hr' (fun t ht => h t (by simp [ht])) (fun t ht => h' t (by simp [ht])) h2
    exact ⟨by rw [h1,h3],h4⟩
theorem sig_ne (ps : List Nat) (r : Nat) : sigText ps r ≠ [] := by unfold sigText; simp
theorem FOk.sig {n n' : Nat} {f g : Fun} (hf : FOk n f) (hg : FOk n' g) (e : sigText (f.params.map fun p => p.typ) f.result = sigText (g.params.map fun p => p.typ) g.result) : sigOf f = sigOf g := by
  obtain ⟨a,b⟩ := sig_inj hf.rt hg.rt (fun t ht => by obtain ⟨x,hx,rfl⟩ := List.mem_map.1 ht; exact hf.pt x hx) (fun t ht => by obtain ⟨x,hx,rfl⟩ := List.mem_map.1 ht; exact hg.pt x hx) e
  unfold sigOf; rw [a,b]
theorem seen_exp {x y : Option Mod} (hx : ∀ md,x = some md → MOk 601 md) (hy : ∀ md,y = some md → MOk 601 md) {n : Nm} (hn : n ≠ []) (e : seenT x n = seenT y n) :
    (expG x n = none ∧ expG y n = none) ∨ ∃ f g,expG x n = some f ∧ expG y n = some g ∧ sigOf f = sigOf g := by
  unfold seenT at e
  rw [if_neg (fun h => hn h.2),if_neg (fun h => hn h.2)] at e
  have mem : ∀ {z : Option Mod} {f : Fun},(∀ md,z = some md → MOk 601 md) → expG z n = some f → FOk 601 f := fun {z f} hz h => by
    unfold expG at h
    cases z with
    | none => cases h
    | some md => exact (hz md rfl).fs f (firstG_mem h).1
  rcases h1 : expG x n with _ | f <;> rcases h2 : expG y n with _ | g <;> rw [h1,h2] at e <;> simp only at e
  · exact Or.inl ⟨rfl,rfl⟩
  · exact absurd e.symm (sig_ne _ _)
  · exact absurd e (sig_ne _ _)
  · exact Or.inr ⟨f,g,rfl,rfl,(mem hx h1).sig (mem hy h2) e⟩
theorem seen_nil (x y : Option Mod) (hx : ∀ md,x = some md → MOk 601 md) (hy : ∀ md,y = some md → MOk 601 md) (e : seenT x [] = seenT y []) : x.isSome = y.isSome := by
  cases x with
  | none => cases y with
    | none => rfl
    | some b => simp [seenT,expG] at e
  | some a => cases y with
    | none => simp [seenT,expG] at e
    | some b => rfl
theorem imports_agree {E E0 : Nm → Option Mod} (hE : EOk E) (hE0 : EOk E0) {n : Nm} (hn : n ≠ []) : ∀ (l : List Imp),(∀ u ∈ useI n (l.zip (l.map fun i => E0 i.name)),seenT (E u.m) u.n = seenT (E0 u.m) u.n) →
    useI n (l.zip (l.map fun i => E i.name)) = useI n (l.zip (l.map fun i => E0 i.name)) ∧ whoI n (l.zip (l.map fun i => E i.name)) = whoI n (l.zip (l.map fun i => E0 i.name)) ∧
      (lookI n (l.map fun i => E i.name)).map sigOf = (lookI n (l.map fun i => E0 i.name)).map sigOf
  | [],_ => ⟨rfl,rfl,rfl⟩
  | i :: r,h => by
    rw [List.map_cons,List.map_cons,List.zip_cons_cons,List.zip_cons_cons,lookI_exp,lookI_exp]
    have hs : seenT (E i.name) n = seenT (E0 i.name) n := h ⟨i.name,n,seenT (E0 i.name) n⟩ (by rw [List.map_cons,List.zip_cons_cons]; unfold useI; simp)
    unfold useI whoI
    simp only
    rcases seen_exp (fun md h => hE _ md h) (fun md h => hE0 _ md h) hn hs with ⟨h1,h2⟩ | ⟨f,g,h1,h2,h3⟩
    · rw [h1,h2]
      simp only
      obtain ⟨a,b,c⟩ := imports_agree hE hE0 hn r (fun u hu => h u (by rw [List.map_cons,List.zip_cons_cons]; unfold useI; rw [h2]; simp [hu]))
      exact ⟨by rw [a,hs],b,c⟩
    · rw [h1,h2]
      refine ⟨by simp only [hs],by simp only,?_⟩
      simp only [Option.map_some,h3]
theorem name_agree {E E0 : Nm → Option Mod} (hE : EOk E) (hE0 : EOk E0) (nm : Nm) (md : Mod) {n : Nm} (hn : n ≠ []) (h : ∀ u ∈ useV md (imsE E0 md) n,seenT (E u.m) u.n = seenT (E0 u.m) u.n) :
    useV md (imsE E md) n = useV md (imsE E0 md) n ∧ symV nm md (imsE E md) n = symV nm md (imsE E0 md) n ∧ lookV md (imsE E md) n = lookV md (imsE E0 md) n := by
  unfold useV symV lookV imsE at *
  rcases hf : firstG false n md.funs with _ | f
  · rw [hf] at h
    simp only at h ⊢
    obtain ⟨a,b,c⟩ := imports_agree hE hE0 hn md.imports h
    exact ⟨a,by rw [b],c⟩
  · exact ⟨rfl,rfl,rfl⟩
theorem useV_lim {md : Mod} (hok : MOk 601 md) (E : Nm → Option Mod) (n : Nm) : (useV md (imsE E md) n).length ≤ 1000 := by
  unfold useV
  split
  · simp
  · have h := useI_len n (md.imports.zip (imsE E md))
    have := hok.il
    rw [List.length_zip] at h
    omega
theorem calls_ne {E : Nm → Option Mod} {md : Mod} (hE : EOk E) (hok : MOk 601 md) (h0 : (chkE E md).code = 0) {n : Nm} (hn : CallsM 700 md.funs n) : n ≠ [] := by
  obtain ⟨h1,_⟩ := modK_ok hok.trees (by simp [ptsE]) h0
  obtain ⟨f,hf,hc⟩ := hn
  have hk : (lookV md (imsE E md) n).isSome = true := CallsIn.shp (h1 f hf) hc
  rcases hg : firstG false n md.funs with _ | g
  · have hk' : ((lookI n (imsE E md)).map sigOf).isSome = true := by unfold lookV at hk; rw [hg] at hk; exact hk
    rw [Option.isSome_map] at hk'
    obtain ⟨g,hg⟩ := Option.isSome_iff_exists.1 hk'
    obtain ⟨a,md',b,c⟩ := lookI_mem hg
    unfold imsE at b
    obtain ⟨i,_,hi⟩ := List.mem_map.1 b
    rw [← a]; exact ((hE _ _ hi).fs g c).ne
  · obtain ⟨a,b⟩ := firstG_mem hg
    rw [← b]; exact (hok.fs g a).ne
theorem compactL_has {x : Nm × Nm} (l : List (Nm × Nm)) : x ∈ l → x ∈ compactL l := by
  have key : ∀ (n : Nat) (l : List (Nm × Nm)),l.length = n → x ∈ l → x ∈ compactL l := by
    intro n
    induction n with
    | zero => intro l hl h; rw [List.eq_nil_of_length_eq_zero hl] at h; cases h
    | succ n ih =>
      intro l hl h
      obtain ⟨a,y,rfl⟩ : ∃ a y,l = a ++ [y] := ⟨l.dropLast,l.getLast (by intro e; rw [e] at hl; simp at hl),(List.dropLast_concat_getLast _).symm⟩
      rw [compactL_snoc]
      rcases List.mem_append.1 h with h | h
      · have := ih a (by simpa using hl) h
        unfold cstep
        split
        · exact this
        · exact List.mem_append.2 (Or.inl this)
      · have e : x = y := by simpa using h
        subst e
        exact List.mem_of_getLast? (cstep_last _ _)
  exact key _ l rfl
theorem usesOf_has {sf : Nm × Nm → List UInt8} {l : List (Nm × Nm)} {x : Nm × Nm} (h : x ∈ l) : entU sf x ∈ usesOf sf l := by
  unfold usesOf
  refine List.mem_map.2 ⟨x,compactL_has _ ?_,rfl⟩
  unfold sortL
  exact (List.mergeSort_perm _ _).mem_iff.2 h
theorem comp_agree {E E0 : Nm → Option Mod} (hE : EOk E) (hE0 : EOk E0) (nm : Nm) {md : Mod} (hok : MOk 601 md) (h0 : (chkE E0 md).code = 0) (h : ∀ u ∈ usesE nm E0 md,seenT (E u.m) u.n = u.s) :
    chkE E md = chkE E0 md ∧ objE nm E md = objE nm E0 md ∧ usesE nm E md = usesE nm E0 md := by
  have hkey : ∀ x ∈ (objE nm E0 md).2.map keyU ++ md.imports.map fun i => (i.name,[]),sfE E x = sfE E0 x := fun x hx => h (entU (sfE E0) x) (usesOf_has hx)
  have hcall : ∀ n,CallsM 700 md.funs n → useV md (imsE E md) n = useV md (imsE E0 md) n ∧ symV nm md (imsE E md) n = symV nm md (imsE E0 md) n ∧ lookV md (imsE E md) n = lookV md (imsE E0 md) n := fun n hn => by
    refine name_agree hE hE0 nm md (calls_ne hE0 hok h0 hn) fun u hu => ?_
    have hm : u ∈ (objE nm E0 md).2 := by
      unfold objE
      rw [compK_mem hok.trees]
      refine Or.inr ⟨n,hn,?_⟩
      show u ∈ (useV md (imsE E0 md) n).take 1000
      rw [List.take_of_length_le (useV_lim hok E0 n)]
      exact hu
    exact hkey (keyU u) (List.mem_append.2 (Or.inl (List.mem_map.2 ⟨u,hm,rfl⟩)))
  have himp : (ptsE E md).map Option.isSome = (ptsE E0 md).map Option.isSome := by
    unfold ptsE
    rw [List.map_map,List.map_map]
    refine List.map_congr_left fun i hi => ?_
    show ((E i.name).map _).isSome = ((E0 i.name).map _).isSome
    rw [Option.isSome_map,Option.isSome_map]
    exact seen_nil _ _ (fun md h => hE _ md h) (fun md h => hE0 _ md h) (hkey (i.name,[]) (List.mem_append.2 (Or.inr (List.mem_map.2 ⟨i,hi,rfl⟩))))
  have hchk : chkE E md = chkE E0 md := by
    unfold chkE
    refine modK_congr (fun n hn => ?_) himp
    obtain ⟨a,b,c⟩ := hcall n hn
    exact ⟨c,by show (useV md (imsE E md) n).take 1000 = (useV md (imsE E0 md) n).take 1000; rw [a]⟩
  have hobj : objE nm E md = objE nm E0 md := by
    unfold objE
    rw [hchk]
    refine congrFun (compK_congr nm fun n hn => ?_) _
    obtain ⟨a,b,c⟩ := hcall n hn
    exact ⟨b,by show (useV md (imsE E md) n).take 1000 = (useV md (imsE E0 md) n).take 1000; rw [a]⟩
  refine ⟨hchk,hobj,?_⟩
  unfold usesE
  rw [hobj]
  unfold usesOf
  refine List.map_congr_left fun x hx => ?_
  have hx' := compactL_mem _ hx
  unfold sortL at hx'
  have := hkey x ((List.mergeSort_perm _ _).mem_iff.1 hx')
  unfold entU
  rw [this]
theorem curr_comp {E : Nm → Option Mod} (hE : EOk E) {m : Md} (hM : ∀ o,m.obj = some o → Made m.name o) (hc : curr E m = true) : (compM E m).1.1 = 0 ∧ (compM E m).2 = m.obj := by
  unfold curr at hc
  rcases ho : m.obj with _ | o
  · rw [ho] at hc; cases hc
  · rw [ho] at hc
    simp only [Bool.and_eq_true,beq_iff_eq] at hc
    obtain ⟨h1,h2,E0,md,hE0,hf,h0,hfs,hus⟩ := hM o ho
    have hok := formOf_ok h2 hf
    have hu : ∀ u ∈ usesE m.name E0 md,seenT (E u.m) u.n = u.s := fun u hu => by
      rw [← hus] at hu
      have := List.all_eq_true.1 hc.2 u hu
      simpa [holdsU] using this
    obtain ⟨a,b,c⟩ := comp_agree hE hE0 m.name hok h0 hu
    unfold compM
    rw [← hc.1,hf]
    simp only
    rw [a,b,c,h0,if_pos rfl]
    exact ⟨rfl,by rw [← hfs,← hus]⟩
def madeM (E : Nm → Option Mod) (m : Md) : Md := { m with obj := (compM E m).2 }
def toldM (E : Nm → Option Mod) (m : Md) : Option Dg := if (compM E m).1.1 = 0 then none else some ⟨m.name,(compM E m).1.1,(compM E m).1.2⟩
theorem buildM_new {E : Nm → Option Mod} (hE : EOk E) {m : Md} (hM : ∀ o,m.obj = some o → Made m.name o) : buildM E m = madeM E m ∧ diagM E m = toldM E m := by
  unfold buildM diagM madeM toldM
  rcases hc : curr E m with _ | _
  · exact ⟨rfl,rfl⟩
  · obtain ⟨a,b⟩ := curr_comp hE hM hc
    rw [b,a]
    simp
end Go.Proofs.YtpmmjkiclngpmaaGreatDoor
namespace Go.Proofs.YtpmmjkiclngpmaaGreatDoor
open Go.RowKit
theorem slotR_in (name : Nm) : ∀ l : List Nm,l ≠ [] → 0 ≤ slotR name l ∧ slotR name l < l.length
  | [],h => absurd rfl h
  | x :: r,_ => by
    unfold slotR
    rw [List.length_cons]
    split
    · next h =>
      have := slotR_in name r (fun e => by rw [e] at h; simp at h)
      omega
    · omega
section
variable {g : Ex → KS → Nat × KS} {Q : List Nm → Ex → Prop} {sc : List (Nm × Nat)}
end
end Go.Proofs.YtpmmjkiclngpmaaGreatDoor
namespace Go.Proofs.YtpmmjkiclngpmaaGreatDoor
open Go.RowKit
def pfOf (P : Sym → Nat) (E : Nm → Option Mod) (nm : Nm) (md : Mod) (f : Fun) : PF := ⟨f.params.map fun x => x.name,f.body,fun n => P (symV nm md (imsE E md) n)⟩
def FromM (P : Sym → Nat) (E : Nm → Option Mod) (L : List Md) (c : CF) (F : PF) : Prop :=
  ∃ m ∈ L,∃ md f lk,formOf m.now = some md ∧ (chkE E md).code = 0 ∧ f ∈ md.funs ∧ c = cfOf m.name (fndE m.name md (imsE E md)) 700 f lk ∧ F = pfOf P E m.name md f
theorem compK_from {P : Sym → Nat} {E : Nm → Option Mod} {L : List Md} {m : Md} (hm : m ∈ L) {md : Mod} (hf : formOf m.now = some md) (h0 : (chkE E md).code = 0) : ∀ (l : List Fun) (lk : List Us),(∀ f ∈ l,f ∈ md.funs) → All2 (FromM P E L) (compK m.name (fndE m.name md (imsE E md)) 700 l lk).1 (l.map (pfOf P E m.name md))
  | [],_,_ => trivial
  | f :: r,lk,h => ⟨⟨m,hm,md,f,lk,hf,h0,h f (by simp),rfl,rfl⟩,compK_from hm hf h0 r _ fun x hx => h x (by simp [hx])⟩
theorem good_from {P : Sym → Nat} {E : Nm → Option Mod} {L0 : List Md} : ∀ (L : List Md),(∀ m ∈ L,m ∈ L0 ∧ GoodM E m) → All2 (FromM P E L0) (L.map funsOf).flatten (L.map (pfsM P E)).flatten
  | [],_ => trivial
  | m :: r,h => by
    obtain ⟨hm,md,h1,h2,h3⟩ := h m (by simp)
    rw [List.map_cons,List.map_cons,List.flatten_cons,List.flatten_cons]
    refine All2.append ?_ (good_from r fun x hx => h x (by simp [hx]))
    rw [h3]
    unfold pfsM objE
    rw [h1]
    exact compK_from hm h1 h2 md.funs _ fun f hf => hf
section
variable {L : List Md} {E : Nm → Option Mod}
end
theorem built_good {s : Sto} (hs : ∀ m ∈ s.L,m.name.length ≤ 8 ∧ m.now.length ≤ 600) (hM : StM s) (hd : (buildS s).1 = []) : ∀ m ∈ (buildS s).2.L,GoodM (formE (buildS s).2.L) m := by
  have hE := EOk_of hs
  have hf : formE (buildS s).2.L = formE s.L := formE_same fun z => getM_map (buildM_name _) _ _
  rw [hf]
  intro m hm
  obtain ⟨m0,h0,rfl⟩ := List.mem_map.1 hm
  have hn := buildM_new hE (hM m0 h0)
  rw [hn.1]
  have hdd : diagsL (formE s.L) s.L = [] := hd
  unfold diagsL at hdd
  rw [List.filterMap_eq_nil_iff] at hdd
  have h1 := hdd m0 h0
  rw [hn.2] at h1
  unfold toldM at h1
  split at h1
  · next hc =>
    unfold GoodM madeM
    unfold compM at hc ⊢
    rcases hform : formOf m0.now with _ | md
    · rw [hform] at hc; simp at hc
    · rw [hform] at hc
      simp only at hc
      refine ⟨md,rfl,hc,?_⟩
      simp only [funsOf]
      rw [if_pos hc]
      rfl
  · cases h1
theorem built_sizes {s : Sto} (hs : ∀ m ∈ s.L,m.name.length ≤ 8 ∧ m.now.length ≤ 600) : ∀ m ∈ (buildS s).2.L,m.name.length ≤ 8 ∧ m.now.length ≤ 600 := fun m hm => by
  obtain ⟨m0,h0,rfl⟩ := List.mem_map.1 hm
  rw [(buildM_name _ m0).1,(buildM_name _ m0).2]
  exact hs m0 h0
theorem funs_total : ∀ (L : List Md),(∀ m ∈ L,(funsOf m).length ≤ 601) → (L.map funsOf).flatten.length ≤ 601 * L.length
  | [],_ => by simp
  | m :: r,h => by
    have h1 := h m (by simp)
    have h2 := funs_total r fun x hx => h x (by simp [hx])
    rw [List.map_cons,List.flatten_cons,List.length_append,List.length_cons]
    omega
theorem built_imOk {s : Sto} (hs : ∀ m ∈ s.L,m.name.length ≤ 8 ∧ m.now.length ≤ 600) (hn : s.L.length ≤ 100) (hM : StM s) : ∀ fs,(buildS s).2.img = some fs → ImOk fs := by
  intro fs hfs
  have hi : (buildS s).2.img = if diagsL (formE s.L) s.L = [] then some (linkP ((buildS s).2.L.map funsOf)) else none := rfl
  rw [hi] at hfs
  split at hfs
  · next hd =>
    simp only [Option.some.injEq] at hfs
    subst hfs
    have hg := built_good hs hM hd
    refine link_imOk (E := formE (buildS s).2.L) (fun m hm => ⟨hg m hm,(built_sizes hs m hm).2⟩) ?_
    have := funs_total (buildS s).2.L fun m hm => by
      obtain ⟨md,h1,h2,h3⟩ := hg m hm
      rw [h3]
      unfold objE
      rw [compK_all.1]
      exact (formOf_ok (built_sizes hs m hm).2 h1).fl
    have hl : (buildS s).2.L.length = s.L.length := by show (s.L.map _).length = _; simp
    rw [hl] at this
    omega
  · cases hfs
end Go.Proofs.YtpmmjkiclngpmaaGreatDoor
