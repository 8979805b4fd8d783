/- YtpmmjkiclngpmaaGreatDoorB42 -/
import Derived.Test.YtpmmjkiclngpmaaGreatDoorB38
import Derived.Test.YtpmmjkiclngpmaaGreatDoorB11
import Derived.Test.YtpmmjkiclngpmaaGreatDoorB18
import Derived.Test.YtpmmjkiclngpmaaGreatDoorB41
set_option maxRecDepth 100000
set_option linter.unusedSimpArgs false
set_option linter.unusedVariables false
set_option maxHeartbeats 12800000
namespace Go.Proofs.YtpmmjkiclngpmaaGreatDoor
open Go.RowKit
theorem gens_calls {g : Ex → CS → CS} {U : Ex → Sym → Prop} {l : List Ex} (h : ∀ x ∈ l,∀ s y,y ∈ (g x s).calls → y ∈ s.calls ∨ U x y) : ∀ s y,y ∈ (gens g l s).calls → y ∈ s.calls ∨ ∃ x ∈ l,U x y := by
  induction l with
  | nil => intro s y hy; exact Or.inl hy
  | cons x r ih =>
    intro s y hy
    rcases ih (fun z hz => h z (by simp [hz])) (g x s) y hy with h1 | ⟨z,hz,hu⟩
    · rcases h x (by simp) s y h1 with h2 | h2
      · exact Or.inl h2
      · exact Or.inr ⟨x,by simp,h2⟩
    · exact Or.inr ⟨z,by simp [hz],hu⟩
theorem gen_calls (fnd : Fnd) (m : Nat) : ∀ (e : Ex) (s : CS) (y : Sym),y ∈ (gen fnd m e s).calls → y ∈ s.calls ∨ ∃ n,CallsIn m e n ∧ y = fnd.sym n := by
  induction m with
  | zero => intro e s y hy; exact Or.inl hy
  | succ m ih =>
    intro e s y
    have part : ∀ x ∈ e.parts,(∃ n,CallsIn m x n ∧ y = fnd.sym n) → ∃ n,CallsIn (m + 1) e n ∧ y = fnd.sym n := fun x hx ⟨n,h1,h2⟩ => ⟨n,Or.inr ⟨x,hx,h1⟩,h2⟩
    have all : ∀ l : List Ex,(∀ x ∈ l,x ∈ e.parts) → y ∈ (gens (gen fnd m) l s).calls → y ∈ s.calls ∨ ∃ n,CallsIn (m + 1) e n ∧ y = fnd.sym n := fun l hl hy => by
      rcases gens_calls (U := fun x y => ∃ n,CallsIn m x n ∧ y = fnd.sym n) (fun x _ s y hy => ih x s y hy) s y hy with h | ⟨x,hx,h⟩
      · exact Or.inl h
      · exact Or.inr (part x (hl x hx) h)
    unfold gen
    split
    · intro hy; exact Or.inl hy
    split
    · intro hy; exact Or.inl hy
    split
    · exact all _ (fun x hx => List.mem_of_mem_take hx)
    split
    · split
      · next a b c hp =>
        intro hy
        have hy' : y ∈ (gen fnd m c (((gen fnd m b ((gen fnd m a s).emit 4 0)).emit 3 0).land (gen fnd m a s).code.length)).calls := hy
        rcases ih c _ y hy' with h | h
        · have h' : y ∈ (gen fnd m b ((gen fnd m a s).emit 4 0)).calls := h
          rcases ih b _ y h' with h | h
          · have h' : y ∈ (gen fnd m a s).calls := h
            rcases ih a _ y h' with h | h
            · exact Or.inl h
            · exact Or.inr (part a (by rw [hp]; simp) h)
          · exact Or.inr (part b (by rw [hp]; simp) h)
        · exact Or.inr (part c (by rw [hp]; simp) h)
      · intro hy; exact Or.inl hy
    split
    · split
      · next a b hp =>
        intro hy
        have hy' : y ∈ (gen fnd m b (((gen fnd m a s).enter e.name).emit 2 (gen fnd m a s).scope.length)).calls := hy
        rcases ih b _ y hy' with h | h
        · have h' : y ∈ (gen fnd m a s).calls := h
          rcases ih a _ y h' with h | h
          · exact Or.inl h
          · exact Or.inr (part a (by rw [hp]; simp) h)
        · exact Or.inr (part b (by rw [hp]; simp) h)
      · intro hy; exact Or.inl hy
    split
    · next hk =>
      intro hy
      have hy' : y ∈ (gens (gen fnd m) e.parts s).calls ++ [fnd.sym e.name] := hy
      rcases List.mem_append.1 hy' with h | h
      · exact all _ (fun x hx => hx) h
      · exact Or.inr ⟨e.name,Or.inl ⟨hk,rfl⟩,by simpa using h⟩
    · intro hy
      exact all _ (fun x hx => hx) hy
theorem enters_calls (l : List Prm) (s : CS) : (enters l s).calls = s.calls := by
  induction l generalizing s with
  | nil => rfl
  | cons x r ih => show (enters r _).calls = _; rw [ih]; rfl
theorem codeOf_calls (fnd : Fnd) (m : Nat) (f : Fun) (lk : List Us) : ∀ y ∈ (codeOf fnd m f lk).calls,∃ n,CallsIn (m + 1) f.body n ∧ y = fnd.sym n := by
  intro y hy
  have hy' : y ∈ (gen fnd (m + 1) f.body (enters f.params (begun lk))).calls := hy
  rcases gen_calls fnd (m + 1) f.body _ y hy' with h | h
  · rw [enters_calls] at h; exact absurd h (by simp [begun])
  · exact h
theorem codeOf_idx (fnd : Fnd) (m : Nat) (f : Fun) (lk : List Us) : ∀ x ∈ (codeOf fnd m f lk).code,x.1 = 5 → 0 ≤ x.2 ∧ x.2.toNat < (codeOf fnd m f lk).calls.length := by
  obtain ⟨d,k,h1,h2,h3,h4⟩ := (gen_cg fnd (fun _ => 0) (m + 1) f.body (enters f.params (begun lk))).trans (Gn.emit (fun _ => 0) _ 6 0 (by omega))
  have he := (enters_len f.params (begun lk) (by simp [begun])).2.2.1
  intro x hx
  have hx' : x ∈ (enters f.params (begun lk)).code ++ d := by rw [← h1]; exact hx
  rcases List.mem_append.1 hx' with h | h
  · rw [he] at h; cases h
  · exact h4 x h
theorem firstG_mem {pub : Bool} {name : Nm} : ∀ {l : List Fun} {f : Fun},firstG pub name l = some f → f ∈ l ∧ f.name = name := by
  intro l
  induction l with
  | nil => intro f h; cases h
  | cons x r ih =>
    intro f h
    unfold firstG at h
    split at h
    · next hc => simp only [Option.some.injEq] at h; subst h; exact ⟨by simp,hc.2⟩
    · obtain ⟨a,b⟩ := ih h; exact ⟨by simp [a],b⟩
theorem lookI_mem {name : Nm} : ∀ {l : List (Option Mod)} {f : Fun},lookI name l = some f → f.name = name ∧ ∃ md,some md ∈ l ∧ f ∈ md.funs := by
  intro l
  induction l with
  | nil => intro f h; cases h
  | cons x r ih =>
    intro f h
    cases x with
    | none => obtain ⟨a,md,b,c⟩ := ih h; exact ⟨a,md,by simp [b],c⟩
    | some md =>
      unfold lookI at h
      split at h
      · next g hg => simp only [Option.some.injEq] at h; subst h; obtain ⟨a,b⟩ := firstG_mem hg; exact ⟨b,md,by simp,a⟩
      · obtain ⟨a,md,b,c⟩ := ih h; exact ⟨a,md,by simp [b],c⟩
def EOk (E : Nm → Option Mod) : Prop := ∀ n md,E n = some md → MOk 601 md
theorem known_len {E : Nm → Option Mod} {md : Mod} (hE : EOk E) (hok : MOk 601 md) {n : Nm} (h : knownV md (imsE E md) n) : n.length ≤ 100000 := by
  unfold knownV lookV at h
  split at h
  · next f hf => obtain ⟨a,b⟩ := firstG_mem hf; rw [← b]; exact (hok.fs f a).name
  · rw [Option.isSome_map] at h
    obtain ⟨f,hf⟩ := Option.isSome_iff_exists.1 h
    obtain ⟨a,md',b,c⟩ := lookI_mem hf
    unfold imsE at b
    obtain ⟨i,_,hi⟩ := List.mem_map.1 b
    rw [← a]
    exact ((hE _ _ hi).fs f c).name
theorem who_len {name : Nm} : ∀ (l : List (Imp × Option Mod)),(∀ x ∈ l,x.1.name.length ≤ 100000) → (whoI name l).length ≤ 100000 := by
  intro l
  induction l with
  | nil => intro _; simp [whoI]
  | cons x r ih =>
    intro h
    unfold whoI
    split
    · exact h x (by simp)
    · exact ih (fun y hy => h y (by simp [hy]))
theorem CallsIn.shp {known : Nm → Prop} : ∀ {m : Nat} {e : Ex} {n : Nm},Shp known m e → CallsIn m e n → known n := by
  intro m
  induction m with
  | zero => intro e n h; exact absurd h (by simp [Shp])
  | succ m ih =>
    intro e n h hc
    obtain ⟨_,_,_,_,q3,hp⟩ := h
    rcases hc with ⟨h3,rfl⟩ | ⟨x,hx,hc⟩
    · exact q3 h3
    · exact ih (hp x hx) hc
theorem cfOf_ok {E : Nm → Option Mod} {md : Mod} (hE : EOk E) (hok : MOk 601 md) (h0 : (chkE E md).code = 0) {nm : Nm} (hnm : nm.length ≤ 8) {f : Fun} (hf : f ∈ md.funs) (lk : List Us) : CFok (cfOf nm (fndE nm md (imsE E md)) 700 f lk) := by
  have hsz := (hok.fs f hf).body.siz (700 + 1)
  have hg := gen_grew (fndE nm md (imsE E md)) (700 + 1) f.body (enters f.params (begun lk))
  have he := enters_len f.params (begun lk) (by simp [begun])
  have hec := enters_calls f.params (begun lk)
  refine ⟨?_,codeOf_idx _ _ _ _,?_,?_,⟨by show nm.length ≤ _; omega,(hok.fs f hf).name⟩⟩
  · show ((gen (fndE nm md (imsE E md)) (700 + 1) f.body (enters f.params (begun lk))).code ++ [(6,0)]).length ≤ _
    rw [List.length_append]
    have := hg.code.2
    rw [he.2.2.1,show (begun lk).code.length = 0 from rfl] at this
    simp only [List.length_cons,List.length_nil]
    omega
  · intro x hx
    obtain ⟨n,h1,rfl⟩ := codeOf_calls _ _ _ _ x hx
    have hk : knownV md (imsE E md) n := CallsIn.shp (chk_known hok h0 f hf) h1
    have hn := known_len hE hok hk
    refine ⟨?_,hn⟩
    show (match firstG false n md.funs with | some _ => nm | none => whoI n (md.imports.zip (imsE E md))).length ≤ _
    split
    · omega
    · exact who_len _ fun y hy => hok.im _ (List.of_mem_zip hy).1
  · show (gen (fndE nm md (imsE E md)) (700 + 1) f.body (enters f.params (begun lk))).calls.length ≤ _
    have := hg.calls
    rw [hec,show (begun lk).calls.length = 0 from rfl] at this
    omega
theorem compK_all {nm : Nm} {fnd : Fnd} {m : Nat} : ∀ {l : List Fun} {lk : List Us},(compK nm fnd m l lk).1.length = l.length ∧ ∀ c ∈ (compK nm fnd m l lk).1,∃ f ∈ l,∃ lk',c = cfOf nm fnd m f lk' := by
  intro l
  induction l with
  | nil => intro lk; exact ⟨rfl,fun c hc => by cases hc⟩
  | cons f r ih =>
    intro lk
    obtain ⟨a,b⟩ := ih (lk := (codeOf fnd m f lk).lk)
    refine ⟨by show (_ :: (compK nm fnd m r _).1).length = _; rw [List.length_cons,a,List.length_cons],fun c hc => ?_⟩
    have hc' : c ∈ cfOf nm fnd m f lk :: (compK nm fnd m r (codeOf fnd m f lk).lk).1 := hc
    rcases List.mem_cons.1 hc' with rfl | hc'
    · exact ⟨f,by simp,lk,rfl⟩
    · obtain ⟨g,hg,q⟩ := b c hc'; exact ⟨g,by simp [hg],q⟩
theorem compactL_mem {x : Nm × Nm} (l : List (Nm × Nm)) : x ∈ compactL l → x ∈ l := by
  have key : ∀ (n : Nat) (l : List (Nm × Nm)),l.length = n → x ∈ compactL l → x ∈ l := by
    intro n
    induction n with
    | zero => intro l hl h; rw [List.eq_nil_of_length_eq_zero hl] at h; cases h
    | succ n ih =>
      intro l hl h
      obtain ⟨a,y,rfl⟩ : ∃ a y,l = a ++ [y] := ⟨l.dropLast,l.getLast (by intro e; rw [e] at hl; simp at hl),(List.dropLast_concat_getLast _).symm⟩
      rw [compactL_snoc] at h
      have ha := ih a (by simpa using hl)
      unfold cstep at h
      split at h
      · exact List.mem_append.2 (Or.inl (ha h))
      · rcases List.mem_append.1 h with h | h
        · exact List.mem_append.2 (Or.inl (ha h))
        · exact List.mem_append.2 (Or.inr h)
  exact key _ l rfl
theorem usesOf_mem {sf : Nm × Nm → List UInt8} {l : List (Nm × Nm)} {u : Us} (h : u ∈ usesOf sf l) : keyU u ∈ l ∧ u.s = sf (keyU u) := by
  unfold usesOf at h
  obtain ⟨x,hx,rfl⟩ := List.mem_map.1 h
  have := compactL_mem _ hx
  unfold sortL at this
  exact ⟨(List.mergeSort_perm _ _).mem_iff.1 this,rfl⟩
theorem usesOf_len (sf : Nm × Nm → List UInt8) (l : List (Nm × Nm)) : (usesOf sf l).length ≤ l.length := by
  unfold usesOf
  rw [List.length_map]
  have h := compactL_len (sortL l) (sortL l).length (Nat.le_refl _)
  rw [List.take_length] at h
  have : (sortL l).length = l.length := (List.mergeSort_perm _ _).length_eq
  omega
structure OG (o : Ob) : Prop where
  ok : ObOk o
  cf : ∀ f ∈ o.funs,CFok f
  fl : o.funs.length ≤ 601
def Made (n : Nm) (o : Ob) : Prop := n.length ≤ 8 ∧ o.text.length ≤ 600 ∧ ∃ E md,EOk E ∧ formOf o.text = some md ∧ (chkE E md).code = 0 ∧ o.funs = (objE n E md).1 ∧ o.uses = usesE n E md
theorem formOf_ok {t : List UInt8} {md : Mod} (ht : t.length ≤ 600) (h : formOf t = some md) : MOk 601 md := by
  unfold formOf at h
  split at h
  · cases h
  · next hf =>
    simp only [Option.some.injEq] at h
    subst h
    exact parsed_ok _ ht (by simpa using hf)
theorem usesE_mem {nm : Nm} {E : Nm → Option Mod} {md : Mod} (hok : MOk 601 md) {u : Us} (h : u ∈ usesE nm E md) : ∃ i ∈ md.imports,u.m = i.name := by
  obtain ⟨h1,_⟩ := usesOf_mem h
  rcases List.mem_append.1 h1 with h1 | h1
  · obtain ⟨v,hv,e⟩ := List.mem_map.1 h1
    obtain ⟨n,_,hu⟩ := lk_seen hok hv
    obtain ⟨i,hi,hm⟩ := (useV_seen hu).2.2
    refine ⟨i,hi,?_⟩
    have : v.m = u.m := congrArg Prod.fst e
    rw [← this]; exact hm
  · obtain ⟨i,hi,e⟩ := List.mem_map.1 h1
    exact ⟨i,hi,(congrArg Prod.fst e).symm⟩
theorem Made.og {n : Nm} {o : Ob} (h : Made n o) : OG o := by
  obtain ⟨hn,ht,E,md,hE,hf,h0,hfs,hus⟩ := h
  have hok := formOf_ok ht hf
  refine ⟨⟨fun u hu => ?_,?_⟩,fun f hf => ?_,?_⟩
  · rw [hus] at hu
    obtain ⟨i,hi,hm⟩ := usesE_mem hok hu
    rw [hm]; exact hok.im i hi
  · rw [hus]
    have h1 := usesOf_len (sfE E) ((objE n E md).2.map keyU ++ md.imports.map fun i => (i.name,[]))
    have h2 := obj_len (nm := n) (E := E) hok
    have h3 := hok.il
    rw [List.length_append,List.length_map,List.length_map] at h1
    unfold usesE
    omega
  · rw [hfs] at hf
    obtain ⟨g,hg,lk,rfl⟩ := compK_all.2 f hf
    exact cfOf_ok hE hok h0 hn hg lk
  · rw [hfs]
    have := (compK_all (nm := n) (fnd := fndE n md (imsE E md)) (m := 700) (l := md.funs) (lk := (chkE E md).lk)).1
    unfold objE
    rw [this]; exact hok.fl
theorem compM_made {E : Nm → Option Mod} (hE : EOk E) {m : Md} (hn : m.name.length ≤ 8) (ht : m.now.length ≤ 600) {o : Ob} (h : (compM E m).2 = some o) : Made m.name o := by
  unfold compM at h
  split at h
  · cases h
  · next md hf =>
    simp only at h
    split at h
    · next h0 =>
      simp only [Option.some.injEq] at h
      subst h
      exact ⟨hn,ht,E,md,hE,hf,h0,rfl,rfl⟩
    · cases h
end Go.Proofs.YtpmmjkiclngpmaaGreatDoor
namespace Go.Proofs.YtpmmjkiclngpmaaGreatDoor
open Go.RowKit
structure Dg where
  name : Nm
  code : Nat
  place : Nat
def dgCells (l : List Dg) : List Value := l.flatMap fun d => [.string ⟨d.name.toArray⟩,.int .i64 (d.code : Int),.int .i64 (d.place : Int)]
theorem dgCells_snoc (l : List Dg) (d : Dg) : dgCells (l ++ [d]) = dgCells l ++ [.string ⟨d.name.toArray⟩,.int .i64 (d.code : Int),.int .i64 (d.place : Int)] := by simp [dgCells]
def buildM (E : Nm → Option Mod) (m : Md) : Md := if curr E m then m else { m with obj := (compM E m).2 }
def diagM (E : Nm → Option Mod) (m : Md) : Option Dg := if curr E m then none else if (compM E m).1.1 = 0 then none else some ⟨m.name,(compM E m).1.1,(compM E m).1.2⟩
def diagsL (E : Nm → Option Mod) (L : List Md) : List Dg := L.filterMap (diagM E)
def compL (E : Nm → Option Mod) (L : List Md) : List Nm := (L.filter fun m => !curr E m).map fun m => m.name
def buildS (s : Sto) : List Dg × Sto :=
  (diagsL (formE s.L) s.L,⟨s.L.map (buildM (formE s.L)),compL (formE s.L) s.L,if diagsL (formE s.L) s.L = [] then some (linkP ((s.L.map (buildM (formE s.L))).map funsOf)) else none⟩)
theorem buildM_name (E : Nm → Option Mod) (m : Md) : (buildM E m).name = m.name ∧ (buildM E m).now = m.now := by unfold buildM; split <;> exact ⟨rfl,rfl⟩
theorem names_mapTo (E : Nm → Option Mod) (L : List Md) (j : Nat) : names (mapTo (buildM E) L j) = names L := by
  unfold mapTo names
  rw [List.map_append,List.map_map]
  have : (fun m : Md => m.name) ∘ buildM E = fun m => m.name := by funext m; exact (buildM_name E m).1
  rw [this,← List.map_append,List.take_append_drop]
theorem getM_map {f : Md → Md} (hf : ∀ m,(f m).name = m.name ∧ (f m).now = m.now) (L : List Md) (z : Nm) : (getM (L.map f) z).map (fun m => m.now) = (getM L z).map fun m => m.now := by
  unfold getM
  induction L with
  | nil => rfl
  | cons y r ih =>
    rw [List.map_cons,List.find?_cons,List.find?_cons,(hf y).1]
    rcases (y.name == z) with _ | _
    · exact ih
    · simp only [Option.map_some,(hf y).2]
theorem getM_append (A B : List Md) (z : Nm) : getM (A ++ B) z = (getM A z).or (getM B z) := by
  unfold getM; rw [List.find?_append]
theorem getM_mapTo (E : Nm → Option Mod) (L : List Md) (j : Nat) (z : Nm) : (getM (mapTo (buildM E) L j) z).map (fun m => m.now) = (getM L z).map fun m => m.now := by
  unfold mapTo
  have h := getM_map (f := buildM E) (buildM_name E) (L.take j) z
  conv => rhs; rw [← List.take_append_drop j L]
  rw [getM_append,getM_append]
  rcases h1 : getM ((L.take j).map (buildM E)) z with _ | a <;> rcases h2 : getM (L.take j) z with _ | b <;> rw [h1,h2] at h <;> simp at h ⊢
  exact h
theorem formE_same {L L' : List Md} (h : ∀ z,(getM L' z).map (fun m => m.now) = (getM L z).map fun m => m.now) : formE L' = formE L := by
  funext z
  have := h z
  unfold formE
  rcases h1 : getM L' z with _ | a <;> rcases h2 : getM L z with _ | b <;> rw [h1,h2] at this <;> simp at this ⊢
  rw [this]
theorem placeE_same {L L' : List Md} (h : ∀ z,(getM L' z).map (fun m => m.now) = (getM L z).map fun m => m.now) : placeE L' = placeE L := by
  funext z
  have := h z
  unfold placeE
  rcases h1 : getM L' z with _ | a <;> rcases h2 : getM L z with _ | b <;> rw [h1,h2] at this <;> simp at this ⊢
  rw [this]
theorem objM_set {L : List Md} (h : Rising (names L)) (j : Nat) (hj : j < L.length) (x : Option Ob) : objM L[j].name x L = L.set j { L[j] with obj := x } := by
  unfold objM
  apply List.ext_getElem
  · simp
  · intro i h1 h2
    rw [List.getElem_map]
    by_cases e : i = j
    · subst e; rw [List.getElem_set_self,if_pos rfl]
    · rw [List.getElem_set_ne (Ne.symm e)]
      have hi : i < L.length := by simpa using h1
      have key : ∀ a b (ha : a < L.length) (hb : b < L.length),a < b → L[a].name ≠ L[b].name := fun a b ha hb hab => by
        have := List.pairwise_iff_getElem.1 h.ne a b (by simpa using ha) (by simpa using hb) hab
        simpa using this
      have hne : L[i].name ≠ L[j].name := by
        rcases Nat.lt_or_gt_of_ne e with q | q
        · exact key i j hi hj q
        · exact (key j i hj hi q).symm
      rw [if_neg hne]
theorem compL_snoc {E : Nm → Option Mod} {L : List Md} (h : Rising (names L)) (j : Nat) (hj : j < L.length) : compL E (L.take (j + 1)) = if curr E L[j] then compL E (L.take j) else putB L[j].name (compL E (L.take j)) := by
  have e : compL E (L.take (j + 1)) = compL E (L.take j) ++ (if curr E L[j] then [] else [L[j].name]) := by
    unfold compL
    rw [List.take_succ_eq_append_getElem hj,List.filter_append,List.map_append]
    congr 1
    rcases hc : curr E L[j] with _ | _ <;> simp [hc]
  rw [e]
  split
  · simp
  · next hc =>
    have hr1 : Rising (compL E (L.take j) ++ [L[j].name]) := by
      have : (compL E (L.take j) ++ [L[j].name]).Sublist (names L) := by
        have h1 : compL E (L.take (j + 1)) = compL E (L.take j) ++ [L[j].name] := by rw [e,if_neg hc]
        rw [← h1]
        exact (List.Sublist.map _ (List.filter_sublist.trans (List.take_sublist _ _)))
      exact List.Pairwise.sublist this h
    have hr2 : Rising (putB L[j].name (compL E (L.take j))) := Rising.putB (List.Pairwise.sublist (List.sublist_append_left _ _) hr1)
    refine Rising.ext hr1 hr2 fun x => ?_
    rw [mem_putB,List.mem_append]
    simp only [List.mem_singleton]
    exact or_comm
theorem compL_sub {E : Nm → Option Mod} {L : List Md} (j : Nat) : ∀ x ∈ compL E (L.take j),x ∈ names L := fun x hx => by
  unfold compL at hx
  obtain ⟨m,hm,rfl⟩ := List.mem_map.1 hx
  exact List.mem_map.2 ⟨m,List.mem_of_mem_take (List.mem_filter.1 hm).1,rfl⟩
theorem diagsL_snoc {E : Nm → Option Mod} {L : List Md} (j : Nat) (hj : j < L.length) : diagsL E (L.take (j + 1)) = diagsL E (L.take j) ++ (diagM E L[j]).toList := by
  unfold diagsL
  rw [List.take_succ_eq_append_getElem hj,List.filterMap_append]
  congr 1
theorem diagsL_len {E : Nm → Option Mod} {L : List Md} : (diagsL E L).length ≤ L.length := List.length_filterMap_le _ _
def stepS (s : Sto) (j : Nat) : Sto := ⟨mapTo (buildM (formE s.L)) s.L j,compL (formE s.L) (s.L.take j),s.img⟩
theorem stepS_form (s : Sto) (j : Nat) : formE (stepS s j).L = formE s.L ∧ placeE (stepS s j).L = placeE s.L := ⟨formE_same (getM_mapTo _ _ _),placeE_same (getM_mapTo _ _ _)⟩
theorem stepS_at (s : Sto) (j : Nat) (hj : j < s.L.length) (h2 : j < (stepS s j).L.length) : (stepS s j).L[j] = s.L[j] := mapTo_at _ _ _ hj
theorem stepS_mem (s : Sto) (j : Nat) (hj : j < s.L.length) : s.L[j] ∈ (stepS s j).L := by
  have h2 : j < (stepS s j).L.length := by show j < (mapTo _ _ _).length; rw [mapTo_len]; exact hj
  have := List.getElem_mem h2
  rw [stepS_at s j hj h2] at this
  exact this
theorem stepS_keep {s : Sto} (h : Rising (names s.L)) (j : Nat) (hj : j < s.L.length) (hc : curr (formE s.L) s.L[j] = true) : stepS s (j + 1) = stepS s j := by
  unfold stepS
  rw [compL_snoc h j hj,if_pos hc,mapTo_next _ _ _ hj]
  have e : buildM (formE s.L) s.L[j] = s.L[j] := by unfold buildM; rw [if_pos hc]
  rw [e]
  have := mapTo_at (buildM (formE s.L)) s.L j hj
  congr 1
  rw [← this,List.set_getElem_self]
theorem stepS_comp {s : Sto} (h : Rising (names s.L)) (j : Nat) (hj : j < s.L.length) (hc : curr (formE s.L) s.L[j] = false) : compS (stepS s j) s.L[j] = stepS s (j + 1) := by
  unfold compS
  rw [(stepS_form s j).1]
  unfold stepS
  have h2 : j < (mapTo (buildM (formE s.L)) s.L j).length := by rw [mapTo_len]; exact hj
  have e1 := mapTo_at (buildM (formE s.L)) s.L j hj
  have e2 := objM_set (L := mapTo (buildM (formE s.L)) s.L j) (by rw [names_mapTo]; exact h) j h2 (compM (formE s.L) s.L[j]).2
  rw [e1] at e2
  rw [compL_snoc h j hj,if_neg (by simp [hc]),mapTo_next _ _ _ hj]
  have e3 : buildM (formE s.L) s.L[j] = { s.L[j] with obj := (compM (formE s.L) s.L[j]).2 } := by unfold buildM; rw [if_neg (by simp [hc])]
  rw [e3]
  simp only
  rw [e2]
def StM (s : Sto) : Prop := ∀ m ∈ s.L,∀ o,m.obj = some o → Made m.name o
theorem EOk_of {L : List Md} (hs : ∀ m ∈ L,m.name.length ≤ 8 ∧ m.now.length ≤ 600) : EOk (formE L) := fun n md h => formE_ok hs h
theorem buildM_made {E : Nm → Option Mod} (hE : EOk E) {m : Md} (hs : m.name.length ≤ 8 ∧ m.now.length ≤ 600) (hm : ∀ o,m.obj = some o → Made m.name o) : ∀ o,(buildM E m).obj = some o → Made (buildM E m).name o := by
  intro o ho
  rw [(buildM_name E m).1]
  unfold buildM at ho
  split at ho
  · exact hm o ho
  · exact compM_made hE hs.1 hs.2 ho
theorem StM.build {s : Sto} (h : StM s) (hs : ∀ m ∈ s.L,m.name.length ≤ 8 ∧ m.now.length ≤ 600) : StM (buildS s).2 := by
  intro m hm
  obtain ⟨m0,h0,rfl⟩ := List.mem_map.1 hm
  exact buildM_made (EOk_of hs) (hs _ h0) (h _ h0)
theorem diags_none {E : Nm → Option Mod} {L : List Md} (h : diagsL E L = []) : ∀ m ∈ L.map (buildM E),m.obj.isSome = true := by
  intro m hm
  obtain ⟨m0,h0,rfl⟩ := List.mem_map.1 hm
  have h1 : diagM E m0 = none := by
    unfold diagsL at h
    rw [List.filterMap_eq_nil_iff] at h
    exact h m0 h0
  unfold diagM at h1
  unfold buildM
  split
  · next hc =>
    unfold curr at hc
    cases ho : m0.obj with
    | none => rw [ho] at hc; cases hc
    | some o => rfl
  · next hc =>
    rw [if_neg hc] at h1
    split at h1
    · next h2 =>
      show (compM E m0).2.isSome = true
      unfold compM at h2 ⊢
      split
      · next hf => rw [hf] at h2; simp at h2
      · next md hf => rw [hf] at h2; simp only at h2 ⊢; rw [if_pos h2]; rfl
    · cases h1
end Go.Proofs.YtpmmjkiclngpmaaGreatDoor
namespace Go.Proofs.YtpmmjkiclngpmaaGreatDoor
open Go.RowKit Go.Maps
theorem info_diag : (Tryz.prog.info? 61).map (fun i => (i.zero,i.size,i.bytes)) = some (some (.agg #[.string ⟨#[]⟩,.int .i64 0,.int .i64 0]),3,32) := by kernel_rfl
def SP.with (p : SP) (v : Value) : SP := { p with ex := fun k => v.ownBlock = some k }
structure Blt (w1 : World) (p : SP) (s : Sto) (sv : Value) (j : Nat) (w : World) : Prop where
  but : ButS p.own w1 w
  st : StAt w (p.with sv) (stepS s j)
  dia : w.ownsRow w1.heap.size 61 3 sv (diagsL (formE s.L) (s.L.take j)).length (dgCells (diagsL (formE s.L) (s.L.take j)))
theorem Blt.below {w1 : World} {p : SP} {s : Sto} {sv : Value} {j : Nat} {w w' : World} (h : Blt w1 p s sv j w) (hb : Below w.heap.size w w') : Blt w1 p s sv j w' :=
  ⟨h.but.trans (ButS.of_below hb),h.st.below hb,owr_keep h.dia fun k _ l => hb.block k l⟩
theorem Blt.tell {w1 : World} {p : SP} {s : Sto} {sv sv' : Value} {j n : Nat} {w w' : World} (hw1 : ∀ k,p.own k → k < w1.heap.size) (hbu : ButS p.own w1 w) (hst : StAt w (p.with sv) (stepS s (j + 1))) {cs : List Value} (hdi : w.ownsRow w1.heap.size 61 3 sv n cs)
    (hg : w.grownBy w' sv.ownBlock) (hd' : w'.ownsRow w1.heap.size 61 3 sv' (diagsL (formE s.L) (s.L.take (j + 1))).length (dgCells (diagsL (formE s.L) (s.L.take (j + 1))))) (hw : ∀ k,sv'.ownBlock = some k → sv.ownBlock = some k ∨ w.heap.size ≤ k) : Blt w1 p s sv' (j + 1) w' := by
  have hno : ∀ k,p.own k → sv.ownBlock ≠ some k := fun k hk e => by have := (owns_block hdi k e).1; have := hw1 k hk; omega
  have hsz := hbu.size
  refine ⟨⟨hg.os.trans hbu.os,hg.tape.trans hbu.tape,hg.output.trans hbu.output,Nat.le_trans hbu.size hg.size,fun k hk hne => (hg.block k (by omega) (fun e => by have := (owns_block hdi k e.symm).1; omega)).trans (hbu.block k hk hne)⟩,?_,hd'⟩
  have h0 : StAt w { p with ex := fun k => sv.ownBlock = some k ∨ sv'.ownBlock = some k } (stepS s (j + 1)) := hst.more (fun k => sv.ownBlock = some k ∨ sv'.ownBlock = some k) fun k hk e => Or.inr (by
    rcases e with e | e
    · exact e
    · rcases hw k e with q | q
      · exact q
      · omega)
  have h1 : StAt w' { p with ex := fun k => sv.ownBlock = some k ∨ sv'.ownBlock = some k } (stepS s (j + 1)) := h0.keepE (fun k hk e => by
    rcases e with e | e
    · exact hno k hk e
    · rcases hw k e with q | q
      · exact hno k hk q
      · have := hw1 k hk; omega) (fun k hk he => hg.block k hk (fun e => he (Or.inl e.symm)))
  exact h1.more (fun k => sv'.ownBlock = some k) fun k hk e => Or.inr (Or.inr e)
theorem StAt.img1 {w : World} {p : SP} {s : Sto} (h : StAt w p s) {ip : Option Addr} {im : Option (List CF)} (hi : ImAt (fun k => ¬ p.out k) w ip im) : ButS p.own w (w.setCell ⟨p.sb,3,none⟩ (.pointer ip)) ∧ StAt (w.setCell ⟨p.sb,3,none⟩ (.pointer ip)) p { s with img := im } := by
  have hsb := h.sbmap
  have hbl : ∀ k,k ≠ p.sb → (w.setCell ⟨p.sb,3,none⟩ (.pointer ip)).heap[k]? = w.heap[k]? := fun k hne => Below.heap_setCell _ _ _ _ hne
  have hkeep : ∀ k,¬ p.out k → k < w.heap.size → ¬ p.out k ∧ (w.setCell ⟨p.sb,3,none⟩ (.pointer ip)).heap[k]? = w.heap[k]? := fun k h1 h2 => ⟨h1,hbl k (fun e => h1 (Or.inl (Or.inl e)))⟩
  refine ⟨(ButS.refl _ _).set (Or.inl (Or.inl rfl)) _ _,⟨ip,?_,hi.keep hkeep⟩,h.mods.keep (hbl _ (Ne.symm hsb.1)),?_,h.comp.keep (hbl _ (Ne.symm hsb.2.2)),h.n1,h.n2,h.n3,h.few,h.small⟩
  · obtain ⟨ip0,a,_⟩ := h.blk
    rw [block_setCell a]; rfl
  · obtain ⟨ov,a,b⟩ := h.objs
    exact ⟨ov,a.keep (hbl _ (Ne.symm hsb.2.1)),fun m hm o ho => (b m hm o ho).keep hkeep⟩
end Go.Proofs.YtpmmjkiclngpmaaGreatDoor
