/- YtpmmjkiclngpmaaGreatDoorB34 -/
import Derived.Test.YtpmmjkiclngpmaaGreatDoorB33
import Derived.Test.YtpmmjkiclngpmaaGreatDoorB22
set_option maxRecDepth 100000
set_option linter.unusedSimpArgs false
set_option linter.unusedVariables false
set_option maxHeartbeats 12800000
namespace Go.Proofs.YtpmmjkiclngpmaaGreatDoor
open Go.RowKit
def CallsIn : Nat → Ex → Nm → Prop
  | 0,_,_ => False
  | m + 1,e,n => (e.kind = 3 ∧ e.name = n) ∨ ∃ x ∈ e.parts,CallsIn m x n
theorem tell_code (s : KS) {c : Nat} (hc : c ≠ 0) (p : Nat) : (s.tell c p).code ≠ 0 := by
  unfold KS.tell
  split
  · exact hc
  · next h =>
    intro e
    apply h
    unfold KS.tells
    rw [e]; rfl
section
variable {g : Ex → KS → Nat × KS} {Q : Ex → Prop}
theorem mustK_code {want : Nat} {e : Ex} {s : KS} (h : ∀ s,(g e s).2.code = 0 → s.code = 0 ∧ Q e) (hc : (mustK g want e s).code = 0) : s.code = 0 ∧ Q e := by
  unfold mustK at hc
  split at hc
  · exact absurd hc (tell_code _ (by omega) _)
  · exact h s hc
theorem allK_code {want : Nat} {l : List Ex} (h : ∀ x ∈ l,∀ s,(g x s).2.code = 0 → s.code = 0 ∧ Q x) : ∀ {s : KS},(allK g want l s).code = 0 → s.code = 0 ∧ ∀ x ∈ l,Q x := by
  induction l with
  | nil => intro s hc; exact ⟨hc,fun x hx => by cases hx⟩
  | cons x r ih =>
    intro s hc
    obtain ⟨a,b⟩ := ih (fun y hy => h y (by simp [hy])) (s := mustK g want x s) hc
    obtain ⟨c,d⟩ := mustK_code (h x (by simp)) a
    exact ⟨c,fun y hy => by rcases List.mem_cons.1 hy with rfl | hy; exact d; exact b y hy⟩
theorem argsK_code {l : List Ex} (h : ∀ x ∈ l,∀ s,(g x s).2.code = 0 → s.code = 0 ∧ Q x) : ∀ {ts : List Nat} {s : KS},(argsK g l ts s).code = 0 → s.code = 0 ∧ ∀ x ∈ l,Q x := by
  induction l with
  | nil => intro ts s hc; cases ts <;> exact ⟨hc,fun x hx => by cases hx⟩
  | cons x r ih =>
    intro ts s hc
    cases ts with
    | nil => exact allK_code h hc
    | cons t ts =>
      obtain ⟨a,b⟩ := ih (fun y hy => h y (by simp [hy])) (ts := ts) (s := mustK g t x s) hc
      obtain ⟨c,d⟩ := mustK_code (h x (by simp)) a
      exact ⟨c,fun y hy => by rcases List.mem_cons.1 hy with rfl | hy; exact d; exact b y hy⟩
end
theorem ty_code (look : Look) (m : Nat) : ∀ (e : Ex),Shp (fun _ => True) m e → Leafy m e → ∀ s,(tyN look m e s).2.code = 0 → s.code = 0 ∧ Shp (fun n => (look.sig n).isSome = true) m e := by
  induction m with
  | zero => intro e h; exact absurd h (by simp [Shp])
  | succ m ih =>
    intro e h hlf s hc
    obtain ⟨q1,q4,q5,q6,q3,hp⟩ := h
    obtain ⟨l0,lp⟩ := hlf
    have ihp : ∀ x ∈ e.parts,∀ s,(tyN look m x s).2.code = 0 → s.code = 0 ∧ Shp (fun n => (look.sig n).isSome = true) m x := fun x hx s => ih x (hp x hx) (lp x hx) s
    have fin : (e.kind = 3 → (look.sig e.name).isSome = true) → (∀ x ∈ e.parts,Shp (fun n => (look.sig n).isSome = true) m x) → Shp (fun n => (look.sig n).isSome = true) (m + 1) e := fun a b => ⟨q1,q4,q5,q6,a,b⟩
    have noparts : e.kind ≤ 2 → ∀ x ∈ e.parts,Shp (fun n => (look.sig n).isSome = true) m x := fun hk x hx => by rw [l0 hk] at hx; cases hx
    unfold tyN at hc
    split at hc
    · next hk => exact ⟨hc,fin (by omega) (noparts (by omega))⟩
    split at hc
    · next hk =>
      refine ⟨?_,fin (by omega) (noparts (by omega))⟩
      unfold varK at hc
      split at hc
      · exact hc
      · exact absurd hc (tell_code _ (by omega) _)
    split at hc
    · next hk =>
      unfold callK at hc
      split at hc
      · next hl =>
        have := (allK_code ihp hc).1
        exact absurd this (tell_code _ (by omega) _)
      · next ps r hl =>
        obtain ⟨a,b⟩ := argsK_code ihp hc
        refine ⟨?_,fin (fun _ => by rw [hl]; rfl) b⟩
        split at a
        · exact a
        · exact absurd a (tell_code _ (by omega) _)
    split at hc
    · next hk =>
      have hl1 := q4 hk
      match hpp : e.parts,hl1 with
      | [a],_ =>
        rw [hpp] at hc
        obtain ⟨x,y⟩ := ihp a (by rw [hpp]; simp) s hc
        exact ⟨x,fin (by omega) (by rw [hpp]; intro z hz; simp at hz; subst hz; exact y)⟩
    split at hc
    · next hk =>
      obtain ⟨a,b,c,hpp⟩ := len3 (q5 hk)
      rw [hpp] at hc
      simp only [ifK] at hc
      obtain ⟨x1,y1⟩ := mustK_code (ihp c (by rw [hpp]; simp)) hc
      obtain ⟨x2,y2⟩ := ihp b (by rw [hpp]; simp) _ x1
      obtain ⟨x3,y3⟩ := mustK_code (ihp a (by rw [hpp]; simp)) x2
      exact ⟨x3,fin (by omega) (by rw [hpp]; intro z hz; simp at hz; rcases hz with rfl | rfl | rfl; exact y3; exact y2; exact y1)⟩
    split at hc
    · next hk =>
      obtain ⟨a,b,hpp⟩ := len2 (q6 hk)
      rw [hpp] at hc
      simp only [letK] at hc
      obtain ⟨x1,y1⟩ := ihp b (by rw [hpp]; simp) _ hc
      obtain ⟨x2,y2⟩ := ihp a (by rw [hpp]; simp) _ x1
      exact ⟨x2,fin (by omega) (by rw [hpp]; intro z hz; simp at hz; rcases hz with rfl | rfl; exact y2; exact y1)⟩
    split at hc
    · next hk => obtain ⟨x,y⟩ := allK_code ihp hc; exact ⟨x,fin (by omega) y⟩
    split at hc
    · next hk => obtain ⟨x,y⟩ := allK_code ihp hc; exact ⟨x,fin (by omega) y⟩
    · next h1 h2 h3 h4 h5 h6 h7 h8 => obtain ⟨x,y⟩ := allK_code ihp hc; exact ⟨x,fin (fun h => absurd h h3) y⟩
section
variable {g : Ex → KS → Nat × KS} {U : Ex → Us → Prop}
theorem mustK_mem {want : Nat} {e : Ex} {s : KS} {u : Us} (h : ∀ s,u ∈ (g e s).2.lk ↔ u ∈ s.lk ∨ U e u) : u ∈ (mustK g want e s).lk ↔ u ∈ s.lk ∨ U e u := by
  unfold mustK
  split
  · rw [tell_lk]; exact h s
  · exact h s
theorem allK_mem {want : Nat} {l : List Ex} {u : Us} (h : ∀ x ∈ l,∀ s,u ∈ (g x s).2.lk ↔ u ∈ s.lk ∨ U x u) : ∀ {s : KS},u ∈ (allK g want l s).lk ↔ u ∈ s.lk ∨ ∃ x ∈ l,U x u := by
  induction l with
  | nil => intro s; simp [allK]
  | cons x r ih =>
    intro s
    show u ∈ (allK g want r (mustK g want x s)).lk ↔ _
    rw [ih (fun y hy => h y (by simp [hy])),mustK_mem (h x (by simp)),or_assoc]
    simp
theorem argsK_mem {l : List Ex} {u : Us} (h : ∀ x ∈ l,∀ s,u ∈ (g x s).2.lk ↔ u ∈ s.lk ∨ U x u) : ∀ {ts : List Nat} {s : KS},u ∈ (argsK g l ts s).lk ↔ u ∈ s.lk ∨ ∃ x ∈ l,U x u := by
  induction l with
  | nil => intro ts s; cases ts <;> simp [argsK,allK]
  | cons x r ih =>
    intro ts s
    cases ts with
    | nil => exact allK_mem h
    | cons t ts =>
      show u ∈ (argsK g r ts (mustK g t x s)).lk ↔ _
      rw [ih (fun y hy => h y (by simp [hy])),mustK_mem (h x (by simp)),or_assoc]
      simp
end
def UseIn (use : Nm → List Us) (m : Nat) (e : Ex) (u : Us) : Prop := ∃ n,CallsIn m e n ∧ u ∈ use n
theorem useIn_parts {use : Nm → List Us} {m : Nat} {e : Ex} {u : Us} (hk : e.kind ≠ 3) : UseIn use (m + 1) e u ↔ ∃ x ∈ e.parts,UseIn use m x u := by
  constructor
  · rintro ⟨n,h | ⟨x,hx,h⟩,hu⟩
    · exact absurd h.1 hk
    · exact ⟨x,hx,n,h,hu⟩
  · rintro ⟨x,hx,n,h,hu⟩
    exact ⟨n,Or.inr ⟨x,hx,h⟩,hu⟩
theorem useIn_call {use : Nm → List Us} {m : Nat} {e : Ex} {u : Us} (hk : e.kind = 3) : UseIn use (m + 1) e u ↔ u ∈ use e.name ∨ ∃ x ∈ e.parts,UseIn use m x u := by
  constructor
  · rintro ⟨n,h | ⟨x,hx,h⟩,hu⟩
    · exact Or.inl (by rw [h.2]; exact hu)
    · exact Or.inr ⟨x,hx,n,h,hu⟩
  · rintro (h | ⟨x,hx,n,h,hu⟩)
    · exact ⟨e.name,Or.inl ⟨hk,rfl⟩,h⟩
    · exact ⟨n,Or.inr ⟨x,hx,h⟩,hu⟩
theorem ty_mem (look : Look) (m : Nat) : ∀ (e : Ex),Shp (fun _ => True) m e → Leafy m e → ∀ (s : KS) (u : Us),u ∈ (tyN look m e s).2.lk ↔ u ∈ s.lk ∨ UseIn look.use m e u := by
  induction m with
  | zero => intro e h; exact absurd h (by simp [Shp])
  | succ m ih =>
    intro e h hlf s u
    obtain ⟨q1,q4,q5,q6,q3,hp⟩ := h
    obtain ⟨l0,lp⟩ := hlf
    have ihp : ∀ x ∈ e.parts,∀ s,u ∈ (tyN look m x s).2.lk ↔ u ∈ s.lk ∨ UseIn look.use m x u := fun x hx s => ih x (hp x hx) (lp x hx) s u
    have nop : e.kind ≤ 2 → ∀ s : KS,(u ∈ s.lk ↔ u ∈ s.lk ∨ UseIn look.use (m + 1) e u) := fun hk s => by
      rw [useIn_parts (by omega),l0 hk]; simp
    unfold tyN
    split
    · next hk => exact nop (by omega) s
    split
    · next hk =>
      unfold varK
      split
      · exact nop (by omega) s
      · show u ∈ (s.tell _ _).lk ↔ _
        rw [tell_lk]
        exact nop (by omega) s
    split
    · next hk =>
      rw [useIn_call hk,← or_assoc]
      unfold callK
      split
      · show u ∈ (allK _ _ _ _).lk ↔ _
        rw [allK_mem ihp,tell_lk]
        simp
      · show u ∈ (argsK _ _ _ _).lk ↔ _
        rw [argsK_mem ihp]
        split
        · simp
        · rw [tell_lk]; simp
    split
    · next hk =>
      rw [useIn_parts (by omega)]
      match hpp : e.parts,q4 hk with
      | [a],_ =>
        simp only
        rw [ihp a (by rw [hpp]; simp)]
        simp
    split
    · next hk =>
      rw [useIn_parts (by omega)]
      obtain ⟨a,b,c,hpp⟩ := len3 (q5 hk)
      rw [hpp]
      simp only [ifK]
      rw [mustK_mem (ihp c (by rw [hpp]; simp)),ihp b (by rw [hpp]; simp),mustK_mem (ihp a (by rw [hpp]; simp))]
      simp [or_assoc]
    split
    · next hk =>
      rw [useIn_parts (by omega)]
      obtain ⟨a,b,hpp⟩ := len2 (q6 hk)
      rw [hpp]
      simp only [letK]
      rw [ihp b (by rw [hpp]; simp)]
      simp only
      rw [ihp a (by rw [hpp]; simp)]
      simp [or_assoc]
    split
    · next hk => rw [useIn_parts (by omega)]; exact allK_mem ihp
    split
    · next hk => rw [useIn_parts (by omega)]; exact allK_mem ihp
    · next h1 h2 h3 h4 h5 h6 h7 h8 => rw [useIn_parts h3]; exact allK_mem ihp
section
variable {g g' : Ex → KS → Nat × KS}
theorem mustK_congr {want : Nat} {e : Ex} (h : g e = g' e) : mustK g want e = mustK g' want e := by funext s; unfold mustK; rw [h]
theorem allK_congr {want : Nat} {l : List Ex} (h : ∀ x ∈ l,g x = g' x) : allK g want l = allK g' want l := by
  induction l with
  | nil => rfl
  | cons x r ih => funext s; show allK g want r (mustK g want x s) = allK g' want r (mustK g' want x s); rw [ih (fun y hy => h y (by simp [hy])),mustK_congr (h x (by simp))]
theorem argsK_congr {l : List Ex} (h : ∀ x ∈ l,g x = g' x) : ∀ ts,argsK g l ts = argsK g' l ts := by
  induction l with
  | nil => intro ts; cases ts <;> rfl
  | cons x r ih =>
    intro ts
    cases ts with
    | nil => exact allK_congr h
    | cons t ts => funext s; show argsK g r ts (mustK g t x s) = argsK g' r ts (mustK g' t x s); rw [ih (fun y hy => h y (by simp [hy])),mustK_congr (h x (by simp))]
end
theorem ty_congr {look look' : Look} (m : Nat) : ∀ (e : Ex),(∀ n,CallsIn m e n → look.sig n = look'.sig n ∧ look.use n = look'.use n) → tyN look m e = tyN look' m e := by
  induction m with
  | zero => intro e _; rfl
  | succ m ih =>
    intro e h
    funext s
    have ihp : ∀ x ∈ e.parts,tyN look m x = tyN look' m x := fun x hx => ih x fun n hn => h n (Or.inr ⟨x,hx,hn⟩)
    unfold tyN
    split
    · rfl
    split
    · rfl
    split
    · next hk =>
      obtain ⟨a,b⟩ := h e.name (Or.inl ⟨hk,rfl⟩)
      unfold callK
      rw [a,b]
      split
      · rw [allK_congr ihp]
      · rw [argsK_congr ihp]
    split
    · split
      · next a hpp => rw [ihp a (by rw [hpp]; simp)]
      · rfl
    split
    · split
      · next a b c hpp =>
        unfold ifK
        rw [mustK_congr (ihp a (by rw [hpp]; simp)),ihp b (by rw [hpp]; simp),mustK_congr (ihp c (by rw [hpp]; simp))]
      · rfl
    split
    · split
      · next a b hpp =>
        unfold letK
        rw [ihp a (by rw [hpp]; simp),ihp b (by rw [hpp]; simp)]
      · rfl
    split
    · rw [allK_congr ihp]
    split
    · rw [allK_congr ihp]
    · rw [allK_congr ihp]
end Go.Proofs.YtpmmjkiclngpmaaGreatDoor
namespace Go.Proofs.YtpmmjkiclngpmaaGreatDoor
open Go.RowKit
theorem gens_mem {g : Ex → CS → CS} {U : Ex → Us → Prop} {l : List Ex} {u : Us} (h : ∀ x ∈ l,∀ s,u ∈ (g x s).lk ↔ u ∈ s.lk ∨ U x u) : ∀ {s : CS},u ∈ (gens g l s).lk ↔ u ∈ s.lk ∨ ∃ x ∈ l,U x u := by
  induction l with
  | nil => intro s; simp [gens]
  | cons x r ih =>
    intro s
    show u ∈ (gens g r (g x s)).lk ↔ _
    rw [ih (fun y hy => h y (by simp [hy])),h x (by simp),or_assoc]
    simp
theorem gen_mem (fnd : Fnd) (m : Nat) : ∀ (e : Ex),Shp (fun _ => True) m e → Leafy m e → ∀ (s : CS) (u : Us),u ∈ (gen fnd m e s).lk ↔ u ∈ s.lk ∨ UseIn fnd.use m e u := by
  induction m with
  | zero => intro e h; exact absurd h (by simp [Shp])
  | succ m ih =>
    intro e h hlf s u
    obtain ⟨q1,q4,q5,q6,q3,hp⟩ := h
    obtain ⟨l0,lp⟩ := hlf
    have ihp : ∀ x ∈ e.parts,∀ s,u ∈ (gen fnd m x s).lk ↔ u ∈ s.lk ∨ UseIn fnd.use m x u := fun x hx s => ih x (hp x hx) (lp x hx) s u
    have nop : e.kind ≤ 2 → ∀ s : CS,(u ∈ s.lk ↔ u ∈ s.lk ∨ UseIn fnd.use (m + 1) e u) := fun hk s => by
      rw [useIn_parts (by omega),l0 hk]; simp
    unfold gen
    split
    · next hk => exact nop (by omega) s
    split
    · next hk => exact nop (by omega) s
    split
    · next hk =>
      rw [useIn_parts (by omega),List.take_of_length_le (by rw [q4 hk]; omega)]
      exact gens_mem ihp
    split
    · next hk =>
      rw [useIn_parts (by omega)]
      obtain ⟨a,b,c,hpp⟩ := len3 (q5 hk)
      rw [hpp]
      show u ∈ (CS.ifs _ _ _ _ _).lk ↔ _
      unfold CS.ifs
      show u ∈ (gen fnd m c _).lk ↔ _
      rw [ihp c (by rw [hpp]; simp)]
      show u ∈ (gen fnd m b _).lk ∨ _ ↔ _
      rw [ihp b (by rw [hpp]; simp)]
      show (u ∈ (gen fnd m a s).lk ∨ _) ∨ _ ↔ _
      rw [ihp a (by rw [hpp]; simp)]
      simp [or_assoc]
    split
    · next hk =>
      rw [useIn_parts (by omega)]
      obtain ⟨a,b,hpp⟩ := len2 (q6 hk)
      rw [hpp]
      show u ∈ (CS.lets _ _ _ _ _).lk ↔ _
      unfold CS.lets
      show u ∈ (gen fnd m b _).lk ↔ _
      rw [ihp b (by rw [hpp]; simp)]
      show u ∈ (gen fnd m a s).lk ∨ _ ↔ _
      rw [ihp a (by rw [hpp]; simp)]
      simp [or_assoc]
    split
    · next hk =>
      rw [useIn_call hk]
      show u ∈ (gens (gen fnd m) e.parts s).lk ++ fnd.use e.name ↔ _
      rw [List.mem_append,gens_mem ihp,or_assoc,or_comm (a := ∃ x ∈ e.parts,_)]
    · next h1 h2 h3 h4 h5 h6 => rw [useIn_parts h6]; exact gens_mem ihp
theorem gens_congr {g g' : Ex → CS → CS} {l : List Ex} (h : ∀ x ∈ l,g x = g' x) : gens g l = gens g' l := by
  induction l with
  | nil => rfl
  | cons x r ih => funext s; show gens g r (g x s) = gens g' r (g' x s); rw [ih (fun y hy => h y (by simp [hy])),h x (by simp)]
theorem gen_congr {fnd fnd' : Fnd} (m : Nat) : ∀ (e : Ex),(∀ n,CallsIn m e n → fnd.sym n = fnd'.sym n ∧ fnd.use n = fnd'.use n) → gen fnd m e = gen fnd' m e := by
  induction m with
  | zero => intro e _; rfl
  | succ m ih =>
    intro e h
    funext s
    have ihp : ∀ x ∈ e.parts,gen fnd m x = gen fnd' m x := fun x hx => ih x fun n hn => h n (Or.inr ⟨x,hx,hn⟩)
    unfold gen
    split
    · rfl
    split
    · rfl
    split
    · rw [gens_congr (fun x hx => ihp x (List.mem_of_mem_take hx))]
    split
    · split
      · next a b c hpp =>
        unfold CS.ifs
        rw [ihp a (by rw [hpp]; simp),ihp b (by rw [hpp]; simp),ihp c (by rw [hpp]; simp)]
      · rfl
    split
    · split
      · next a b hpp =>
        unfold CS.lets
        rw [ihp a (by rw [hpp]; simp),ihp b (by rw [hpp]; simp)]
      · rfl
    split
    · next hk =>
      obtain ⟨a,b⟩ := h e.name (Or.inl ⟨hk,rfl⟩)
      rw [gens_congr ihp,b]
      show CS.calls1 _ (fnd.sym e.name) = CS.calls1 _ (fnd'.sym e.name)
      rw [a]
    · rw [gens_congr ihp]
def CallsM (m : Nat) (l : List Fun) (n : Nm) : Prop := ∃ f ∈ l,CallsIn (m + 1) f.body n
def UsesM (use : Nm → List Us) (m : Nat) (l : List Fun) (u : Us) : Prop := ∃ n,CallsM m l n ∧ u ∈ use n
theorem codeOf_congr {fnd fnd' : Fnd} {m : Nat} {f : Fun} (h : ∀ n,CallsIn (m + 1) f.body n → fnd.sym n = fnd'.sym n ∧ fnd.use n = fnd'.use n) : codeOf fnd m f = codeOf fnd' m f := by
  funext lk
  unfold codeOf
  rw [gen_congr (m + 1) f.body h]
theorem compK_congr {fnd fnd' : Fnd} {m : Nat} (vn : Nm) : ∀ {l : List Fun},(∀ n,CallsM m l n → fnd.sym n = fnd'.sym n ∧ fnd.use n = fnd'.use n) → compK vn fnd m l = compK vn fnd' m l := by
  intro l
  induction l with
  | nil => intro _; rfl
  | cons f r ih =>
    intro h
    have h1 := codeOf_congr (fnd := fnd) (fnd' := fnd') (m := m) (f := f) fun n hn => h n ⟨f,by simp,hn⟩
    have h2 := ih fun n ⟨x,hx,hn⟩ => h n ⟨x,by simp [hx],hn⟩
    funext lk
    unfold compK cfOf
    rw [h1,h2]
theorem codeOf_mem {fnd : Fnd} {m : Nat} {f : Fun} (hs : Shp (fun _ => True) (m + 1) f.body) (hl : Leafy (m + 1) f.body) (lk : List Us) (u : Us) : u ∈ (codeOf fnd m f lk).lk ↔ u ∈ lk ∨ UseIn fnd.use (m + 1) f.body u := by
  have h := gen_mem fnd (m + 1) f.body hs hl (enters f.params (begun lk)) u
  rw [(enters_len f.params (begun lk) (by simp [begun])).2.2.2.2] at h
  exact h
theorem compK_mem {fnd : Fnd} {m : Nat} {vn : Nm} : ∀ {l : List Fun},(∀ f ∈ l,Shp (fun _ => True) (m + 1) f.body ∧ Leafy (m + 1) f.body) → ∀ (lk : List Us) (u : Us),u ∈ (compK vn fnd m l lk).2 ↔ u ∈ lk ∨ UsesM fnd.use m l u := by
  intro l
  induction l with
  | nil =>
    intro _ lk u
    constructor
    · exact Or.inl
    · rintro (h | ⟨n,⟨f,hf,_⟩,_⟩)
      · exact h
      · cases hf
  | cons f r ih =>
    intro h lk u
    show u ∈ (compK vn fnd m r (codeOf fnd m f lk).lk).2 ↔ _
    rw [ih (fun x hx => h x (by simp [hx])),codeOf_mem (h f (by simp)).1 (h f (by simp)).2,or_assoc]
    constructor
    · rintro (q | ⟨n,q1,q2⟩ | ⟨n,⟨x,hx,q1⟩,q2⟩)
      · exact Or.inl q
      · exact Or.inr ⟨n,⟨f,by simp,q1⟩,q2⟩
      · exact Or.inr ⟨n,⟨x,by simp [hx],q1⟩,q2⟩
    · rintro (q | ⟨n,⟨x,hx,q1⟩,q2⟩)
      · exact Or.inl q
      · rcases List.mem_cons.1 hx with rfl | hx
        · exact Or.inr (Or.inl ⟨n,q1,q2⟩)
        · exact Or.inr (Or.inr ⟨n,⟨x,hx,q1⟩,q2⟩)
theorem funK_mem {look : Look} {m : Nat} {f : Fun} (hs : Shp (fun _ => True) (m + 1) f.body) (hl : Leafy (m + 1) f.body) (s : KS) (u : Us) : u ∈ (funK look m f s).lk ↔ u ∈ s.lk ∨ UseIn look.use (m + 1) f.body u := by
  unfold funK
  rw [mustK_mem (U := UseIn look.use (m + 1)) (fun s => ty_mem look (m + 1) f.body hs hl s u),prmsK_lk]
theorem funsK_mem {look : Look} {m : Nat} : ∀ {l : List Fun},(∀ f ∈ l,Shp (fun _ => True) (m + 1) f.body ∧ Leafy (m + 1) f.body) → ∀ (s : KS) (u : Us),u ∈ (funsK look m l s).lk ↔ u ∈ s.lk ∨ UsesM look.use m l u := by
  intro l
  induction l with
  | nil =>
    intro _ s u
    constructor
    · exact Or.inl
    · rintro (h | ⟨n,⟨f,hf,_⟩,_⟩)
      · exact h
      · cases hf
  | cons f r ih =>
    intro h s u
    show u ∈ (funsK look m r (funK look m f s)).lk ↔ _
    rw [ih (fun x hx => h x (by simp [hx])),funK_mem (h f (by simp)).1 (h f (by simp)).2,or_assoc]
    constructor
    · rintro (q | ⟨n,q1,q2⟩ | ⟨n,⟨x,hx,q1⟩,q2⟩)
      · exact Or.inl q
      · exact Or.inr ⟨n,⟨f,by simp,q1⟩,q2⟩
      · exact Or.inr ⟨n,⟨x,by simp [hx],q1⟩,q2⟩
    · rintro (q | ⟨n,⟨x,hx,q1⟩,q2⟩)
      · exact Or.inl q
      · rcases List.mem_cons.1 hx with rfl | hx
        · exact Or.inr (Or.inl ⟨n,q1,q2⟩)
        · exact Or.inr (Or.inr ⟨n,⟨x,hx,q1⟩,q2⟩)
theorem modK_mem {look : Look} {m : Nat} {md : Mod} {pts : List (Option Addr)} (h : ∀ f ∈ md.funs,Shp (fun _ => True) (m + 1) f.body ∧ Leafy (m + 1) f.body) (u : Us) : u ∈ (modK look m md pts).lk ↔ UsesM look.use m md.funs u := by
  unfold modK
  rw [funsK_mem h,oncesK_lk,impsK_lk]
  simp
theorem funsK_congr {look look' : Look} {m : Nat} : ∀ {l : List Fun},(∀ n,CallsM m l n → look.sig n = look'.sig n ∧ look.use n = look'.use n) → funsK look m l = funsK look' m l := by
  intro l
  induction l with
  | nil => intro _; rfl
  | cons f r ih =>
    intro h
    have h1 := ty_congr (look := look) (look' := look') (m + 1) f.body fun n hn => h n ⟨f,by simp,hn⟩
    have h2 := ih fun n ⟨x,hx,hn⟩ => h n ⟨x,by simp [hx],hn⟩
    funext s
    show funsK look m r (funK look m f s) = funsK look' m r (funK look' m f s)
    unfold funK
    rw [h2,mustK_congr h1]
theorem impsK_congr : ∀ (l : List Imp) (p p' : List (Option Addr)),p.map Option.isSome = p'.map Option.isSome → ∀ L s,impsK (l.zip p) L s = impsK (l.zip p') L s := by
  intro l
  induction l with
  | nil => intro p p' _ L s; rfl
  | cons x r ih =>
    intro p p' h L s
    match p,p' with
    | [],[] => rfl
    | [],b :: q' => simp at h
    | a :: q,[] => simp at h
    | a :: q,b :: q' =>
      simp only [List.map_cons,List.cons.injEq] at h
      show impsK (r.zip q) _ (impK a _ _) = impsK (r.zip q') _ (impK b _ _)
      have e : impK a = impK b := by
        funext pl s
        unfold impK
        cases a <;> cases b <;> simp at h ⊢
      rw [e]
      exact ih q q' h.2 _ _
theorem modK_congr {look look' : Look} {m : Nat} {md : Mod} {p p' : List (Option Addr)} (h : ∀ n,CallsM m md.funs n → look.sig n = look'.sig n ∧ look.use n = look'.use n) (hp : p.map Option.isSome = p'.map Option.isSome) : modK look m md p = modK look' m md p' := by
  unfold modK
  rw [funsK_congr h,impsK_congr md.imports p p' hp]
theorem onceK_code {L : List (List UInt8)} {n : List UInt8} {p : Nat} {s : KS} (h : (onceK L n p s).code = 0) : s.code = 0 ∧ n ∉ L := by
  unfold onceK at h
  split at h
  · exact absurd h (tell_code _ (by omega) _)
  · next hc => exact ⟨h,fun hn => hc (List.count_pos_iff.2 hn)⟩
theorem oncesK_code : ∀ {l : List (List UInt8 × Nat)} {L : List (List UInt8)} {s : KS},(oncesK l L s).code = 0 → s.code = 0 ∧ (l.map Prod.fst).Nodup ∧ ∀ x ∈ l,x.1 ∉ L := by
  intro l
  induction l with
  | nil => intro L s h; exact ⟨h,List.nodup_nil,fun x hx => by cases hx⟩
  | cons x r ih =>
    intro L s h
    obtain ⟨a,b,c⟩ := ih (L := x.1 :: L) h
    obtain ⟨d,e⟩ := onceK_code a
    refine ⟨d,?_,fun y hy => ?_⟩
    · rw [List.map_cons,List.nodup_cons]
      refine ⟨fun hn => ?_,b⟩
      obtain ⟨y,hy,hxy⟩ := List.mem_map.1 hn
      exact c y hy (by rw [hxy]; simp)
    · rcases List.mem_cons.1 hy with rfl | hy
      · exact e
      · exact fun hn => c y hy (List.mem_cons_of_mem _ hn)
theorem impsK_code : ∀ {l : List (Imp × Option Addr)} {L : List (List UInt8)} {s : KS},(impsK l L s).code = 0 → s.code = 0 ∧ (l.map fun x => x.1.name).Nodup ∧ (∀ x ∈ l,x.1.name ∉ L) ∧ ∀ x ∈ l,x.2 ≠ none := by
  intro l
  induction l with
  | nil => intro L s h; exact ⟨h,List.nodup_nil,fun x hx => (by cases hx),fun x hx => by cases hx⟩
  | cons x r ih =>
    intro L s h
    obtain ⟨a,b,c,d⟩ := ih (L := x.1.name :: L) h
    have hi : (onceK L x.1.name x.1.place s).code = 0 ∧ x.2 ≠ none := by
      unfold impK at a
      split at a
      · exact absurd a (tell_code _ (by omega) _)
      · next hq => exact ⟨a,hq⟩
    obtain ⟨e,f⟩ := onceK_code hi.1
    refine ⟨e,?_,fun y hy => ?_,fun y hy => ?_⟩
    · rw [List.map_cons,List.nodup_cons]
      refine ⟨fun hn => ?_,b⟩
      obtain ⟨y,hy,hxy⟩ := List.mem_map.1 hn
      exact c y hy (by rw [hxy]; simp)
    · rcases List.mem_cons.1 hy with rfl | hy
      · exact f
      · exact fun hn => c y hy (List.mem_cons_of_mem _ hn)
    · rcases List.mem_cons.1 hy with rfl | hy
      · exact hi.2
      · exact d y hy
theorem prmsK_code : ∀ {l : List Prm} {L : List (List UInt8)} {s : KS},(prmsK l L s).code = 0 → s.code = 0 := by
  intro l
  induction l with
  | nil => intro L s h; exact h
  | cons x r ih =>
    intro L s h
    have h1 := ih (L := x.name :: L) (s := addV (onceK L x.name x.place s) x) h
    exact (onceK_code (s := s) h1).1
theorem funsK_code {look : Look} {m : Nat} : ∀ {l : List Fun},(∀ f ∈ l,Shp (fun _ => True) (m + 1) f.body ∧ Leafy (m + 1) f.body) → ∀ {s : KS},(funsK look m l s).code = 0 → s.code = 0 ∧ ∀ f ∈ l,Shp (fun n => (look.sig n).isSome = true) (m + 1) f.body := by
  intro l
  induction l with
  | nil => intro _ s h; exact ⟨h,fun f hf => by cases hf⟩
  | cons f r ih =>
    intro hh s h
    obtain ⟨a,b⟩ := ih (fun x hx => hh x (by simp [hx])) (s := funK look m f s) h
    obtain ⟨c,d⟩ := mustK_code (Q := Shp (fun n => (look.sig n).isSome = true) (m + 1)) (fun s => ty_code look (m + 1) f.body (hh f (by simp)).1 (hh f (by simp)).2 s) a
    have c' : s.code = 0 := prmsK_code (s := { s with scope := [] }) c
    exact ⟨c',fun x hx => by rcases List.mem_cons.1 hx with rfl | hx; exact d; exact b x hx⟩
theorem modK_ok {look : Look} {m : Nat} {md : Mod} {pts : List (Option Addr)} (hh : ∀ f ∈ md.funs,Shp (fun _ => True) (m + 1) f.body ∧ Leafy (m + 1) f.body) (hl : pts.length = md.imports.length) (h : (modK look m md pts).code = 0) :
    (∀ f ∈ md.funs,Shp (fun n => (look.sig n).isSome = true) (m + 1) f.body) ∧ (md.funs.map fun f => f.name).Nodup ∧ (md.imports.map fun i => i.name).Nodup ∧ ∀ p ∈ pts,p ≠ none := by
  obtain ⟨a,b⟩ := funsK_code hh h
  obtain ⟨c,d,_⟩ := oncesK_code a
  obtain ⟨_,e,_,f⟩ := impsK_code c
  refine ⟨b,?_,?_,fun p hp => ?_⟩
  · rw [List.map_map] at d; exact d
  · have e2 : (md.imports.zip pts).map (fun x => x.1.name) = md.imports.map fun i => i.name := by
      rw [show (fun x : Imp × Option Addr => x.1.name) = (fun i : Imp => i.name) ∘ Prod.fst from rfl,← List.map_map,List.map_fst_zip (by omega)]
    rw [e2] at e; exact e
  · obtain ⟨j,hj,rfl⟩ := List.getElem_of_mem hp
    have hj' : j < (md.imports.zip pts).length := by rw [List.length_zip]; omega
    have := f _ (List.getElem_mem hj')
    simpa using this
end Go.Proofs.YtpmmjkiclngpmaaGreatDoor
