/- YtpmmjkiclngpmaaGreatDoorB08 -/
import Derived.Test.YtpmmjkiclngpmaaGreatDoorB07
import Derived.Test.YtpmmjkiclngpmaaGreatDoorB02
set_option maxRecDepth 100000
set_option linter.unusedSimpArgs false
set_option linter.unusedVariables false
set_option maxHeartbeats 12800000
namespace Go.Proofs.YtpmmjkiclngpmaaGreatDoor
open Go.RowKit
def slotR (name : List UInt8) : List (List UInt8) → Int
  | [] => -1
  | x :: r => if 0 < r.length ∧ x ≠ name then slotR name r else r.length
def slotI (sc : List (List UInt8)) (name : List UInt8) : Int := slotR name sc.reverse
def cgs (g : Nat → Ex → List (Nat × Int)) : Nat → List Ex → List (Nat × Int)
  | _,[] => []
  | p,e :: r => g p e ++ cgs g (p + (g p e).length) r
def opOf (k : Nat) : Nat := if 7 ≤ k ∧ k ≤ 13 then k else 14
def cg (cal : List UInt8 → Nat) : Nat → List (List UInt8) → Nat → Ex → List (Nat × Int)
  | 0,_,_,_ => []
  | m + 1,sc,p,e =>
    if e.kind = 0 ∨ e.kind = 1 then [(0,e.value)]
    else if e.kind = 2 then [(1,slotI sc e.name)]
    else if e.kind = 4 then cgs (cg cal m sc) p (e.parts.take 1)
    else if e.kind = 5 then
      (match e.parts with
      | [a,b,c] =>
        let x := cg cal m sc p a
        let y := cg cal m sc (p + x.length + 1) b
        let z := cg cal m sc (p + x.length + 1 + y.length + 1) c
        x ++ [(4,((p + x.length + 1 + y.length + 1 : Nat) : Int))] ++ y ++ [(3,((p + x.length + 1 + y.length + 1 + z.length : Nat) : Int))] ++ z
      | _ => [])
    else if e.kind = 6 then
      (match e.parts with
      | [a,b] => cg cal m sc p a ++ [(2,(sc.length : Int))] ++ cg cal m (sc ++ [e.name]) (p + (cg cal m sc p a).length + 1) b
      | _ => [])
    else if e.kind = 3 then cgs (cg cal m sc) p e.parts ++ [(5,(cal e.name : Int))]
    else cgs (cg cal m sc) p e.parts ++ [(opOf e.kind,0)]
structure PF where
  params : List (List UInt8)
  body : Ex
  cal : List UInt8 → Nat
def evs (g : Nat → Ex → Int × Nat × Nat) : Nat → List Ex → List Int × Nat × Nat
  | f,[] => ([],f,0)
  | f,e :: r =>
    if (g f e).2.2 = 0 then ((g f e).1 :: (evs g (g f e).2.1 r).1,(evs g (g f e).2.1 r).2) else ([],(g f e).2)
def opv (k : Nat) (l : List Int) (f : Nat) : Int × Nat × Nat :=
  match l with
  | [a] => if k = 13 ∨ k = 14 then (un1 k a,f,0) else (0,f,99)
  | [a,b] => if 7 ≤ k ∧ k < 13 then (if k = 12 ∧ b = 0 then (0,f,12) else (bin2 k a b,f,0)) else (0,f,99)
  | _ => (0,f,99)
def ev (Fs : List PF) : Nat → Nat → (List UInt8 → Nat) → List (List UInt8) → List Int → Nat → Ex → Int × Nat × Nat
  | 0,_,_,_,_,f,_ => (0,f,99)
  | n + 1,d,cal,sc,env,f,e =>
    if e.kind = 0 ∨ e.kind = 1 then (e.value,f,0)
    else if e.kind = 2 then (if 0 ≤ slotI sc e.name then (match env[(slotI sc e.name).toNat]? with | some y => (y,f,0) | none => (0,f,99)) else (0,f,99))
    else if e.kind = 4 then (match e.parts with | [a] => ev Fs n d cal sc env f a | _ => (0,f,99))
    else if e.kind = 5 then
      (match e.parts with
      | [a,b,c] =>
        let x := ev Fs n d cal sc env f a
        if x.2.2 = 0 then (if x.1 = 0 then ev Fs n d cal sc env x.2.1 c else ev Fs n d cal sc env x.2.1 b) else (0,x.2)
      | _ => (0,f,99))
    else if e.kind = 6 then
      (match e.parts with
      | [a,b] =>
        let x := ev Fs n d cal sc env f a
        if x.2.2 = 0 then ev Fs n d cal (sc ++ [e.name]) (env ++ [x.1]) x.2.1 b else (0,x.2)
      | _ => (0,f,99))
    else if e.kind = 3 then
      let x := evs (ev Fs n d cal sc env) f e.parts
      if x.2.2 = 0 then
        (if x.2.1 = 0 then (0,0,11) else if d = 0 then (0,x.2.1,13)
        else match Fs[cal e.name]? with
          | none => (0,x.2.1,99)
          | some F => if F.params.length = x.1.length then ev Fs n (d - 1) F.cal F.params x.1 (x.2.1 - 1) F.body else (0,x.2.1,99))
      else (0,x.2)
    else
      let x := evs (ev Fs n d cal sc env) f e.parts
      if x.2.2 = 0 then opv e.kind x.1 x.2.1 else (0,x.2)
def deep : Nat → Ex → Prop
  | 0,_ => False
  | m + 1,e => ∀ x ∈ e.parts,deep m x
def szL (g : Ex → Nat) (l : List Ex) : Nat := l.foldr (fun e n => g e + n) 0
def sz : Nat → Ex → Nat
  | 0,_ => 1
  | m + 1,e => 1 + szL (sz m) e.parts
def mxL (g : Ex → Nat) (l : List Ex) (k : Nat) : Nat := l.foldr (fun e n => max (g e) n) k
def mx : Nat → Nat → Ex → Nat
  | 0,k,_ => k
  | m + 1,k,e =>
    if e.kind = 6 then (match e.parts with | [a,b] => max (mx m k a) (mx m (k + 1) b) | _ => k)
    else mxL (mx m k) e.parts k
def Does (fs : List Fn) (fi base SL : Nat) (rest : List Int) (frs : List Fr) (env : List Int) (bound p len f : Nat) (vals : List Int) (r : Nat × Nat) : Prop :=
  ∀ (tmp slots : List Int),slots.length = SL → slots.take env.length = env → tmp.length + SL + base + bound ≤ 1000000 →
    (r.2 = 0 → ∃ slots' : List Int,slots'.length = SL ∧ slots'.take env.length = env ∧
      Steps fs ⟨tmp ++ (slots.reverse ++ rest),⟨fi,p,base⟩ :: frs,f,0⟩ ⟨vals.reverse ++ (tmp ++ (slots'.reverse ++ rest)),⟨fi,p + len,base⟩ :: frs,r.1,0⟩) ∧
    (r.2 ≠ 0 → r.2 ≠ 99 → ∃ t,Steps fs ⟨tmp ++ (slots.reverse ++ rest),⟨fi,p,base⟩ :: frs,f,0⟩ t ∧ t.wrong = r.2)
theorem code_at {l pre c post : List (Nat × Int)} {x : Nat × Int} (h : l = pre ++ c ++ post) (i : Nat) (hi : c[i]? = some x) : l[pre.length + i]? = some x := by
  have hlt : i < c.length := (List.getElem?_eq_some_iff.1 hi).1
  rw [h,List.append_assoc,List.getElem?_append_right (by omega),List.getElem?_append_left (by omega),← hi]
  congr 1; omega
theorem evs_does {fs : List Fn} {fi base SL : Nat} {rest : List Int} {frs : List Fr} {env : List Int} {F0 : Fn} {dK : Nat} (S : Ex → Nat) (C : Nat → Ex → List (Nat × Int)) (E : Nat → Ex → Int × Nat × Nat)
    (l : List Ex) (h : ∀ e ∈ l,∀ p f pre post,F0.code = pre ++ C p e ++ post → pre.length = p → Does fs fi base SL rest frs env (S e + dK) p (C p e).length f [(E f e).1] (E f e).2) (hS : ∀ e ∈ l,1 ≤ S e) :
    ∀ p f pre post,F0.code = pre ++ cgs C p l ++ post → pre.length = p → Does fs fi base SL rest frs env (szL S l + dK) p (cgs C p l).length f (evs E f l).1 (evs E f l).2 := by
  induction l with
  | nil =>
    intro p f pre post hc hp tmp slots h1 h2 h3
    refine ⟨fun _ => ⟨slots,h1,h2,?_⟩,fun h => absurd rfl h⟩
    exact Steps.refl _ _
  | cons e r ih =>
    intro p f pre post hc hp tmp slots h1 h2 h3
    have hszc : szL S (e :: r) = S e + szL S r := rfl
    have hSe := hS e (by simp)
    have hcg : cgs C p (e :: r) = C p e ++ cgs C (p + (C p e).length) r := rfl
    have A := h e (by simp) p f pre (cgs C (p + (C p e).length) r ++ post) (by rw [hc,hcg]; simp) hp tmp slots h1 h2 (by omega)
    by_cases hw : (E f e).2.2 = 0
    · obtain ⟨sl1,a1,a2,a3⟩ := A.1 hw
      have hev : evs E f (e :: r) = ((E f e).1 :: (evs E (E f e).2.1 r).1,(evs E (E f e).2.1 r).2) := by simp [evs,hw]
      have B := ih (fun x hx => h x (by simp [hx])) (fun x hx => hS x (by simp [hx])) (p + (C p e).length) (E f e).2.1 (pre ++ C p e) post (by rw [hc,hcg]; simp) (by simp [hp]) ((E f e).1 :: tmp) sl1 a1 a2 (by simp; omega)
      rw [hev]
      refine ⟨fun hz => ?_,fun hz h9 => ?_⟩
      · obtain ⟨sl2,b1,b2,b3⟩ := B.1 hz
        refine ⟨sl2,b1,b2,a3.trans ?_⟩
        simp only [List.reverse_cons,List.append_assoc,List.cons_append,List.nil_append,List.reverse_nil] at b3 ⊢
        rw [hcg,List.length_append,← Nat.add_assoc]
        exact b3
      · obtain ⟨t,b1,b2⟩ := B.2 hz h9
        exact ⟨t,a3.trans (by simpa using b1),b2⟩
    · have hev : evs E f (e :: r) = ([],(E f e).2) := by simp [evs,hw]
      rw [hev]
      exact ⟨fun hz => absurd hz hw,fun hz h9 => A.2 hz h9⟩
def Linked (fs : List Fn) (Fs : List PF) (N K : Nat) : Prop :=
  ∀ (k : Nat) (F : PF),Fs[k]? = some F → ∃ fn : Fn,fs[k]? = some fn ∧ fn.params = F.params.length ∧ fn.code = cg F.cal N F.params 0 F.body ++ [(6,0)] ∧ deep N F.body ∧ mx N F.params.length F.body ≤ fn.slots ∧ fn.params ≤ fn.slots ∧ fn.slots + sz N F.body + 1 ≤ K
theorem at_len {α : Type} (L R : List α) (x : α) (i : Nat) (h : L.length = i) : (L ++ [x] ++ R)[i]? = some x := by
  rw [List.append_assoc,List.getElem?_append_right (by omega),h,Nat.sub_self]; rfl
theorem Steps.ins {fs : List Fn} {fi base f : Nat} {F0 : Fn} {pre c post : List (Nat × Int)} {p i op : Nat} {v : Int} {frs : List Fr} {st : List Int} {t : MS} (hF : fs[fi]? = some F0) (hc : F0.code = pre ++ c ++ post) (hp : pre.length = p) (hi : c[i]? = some (op,v)) (hs : st.length ≤ 1000000)
    (h : MS.exec fs op v ⟨fi,p + i + 1,base⟩ frs st f = some t) : Steps fs ⟨st,⟨fi,p + i,base⟩ :: frs,f,0⟩ t :=
  Steps.exec (x := ⟨fi,p + i,base⟩) hF (by rw [← hp]; exact code_at hc i hi) hs h
theorem evs_len (E : Nat → Ex → Int × Nat × Nat) (l : List Ex) (f : Nat) (h : (evs E f l).2.2 = 0) : (evs E f l).1.length = l.length := by
  induction l generalizing f with
  | nil => rfl
  | cons e r ih =>
    by_cases hw : (E f e).2.2 = 0
    · simp only [evs,hw,if_true] at h ⊢
      simp [ih _ h]
    · simp [evs,hw] at h
theorem szL_len (g : Ex → Nat) (l : List Ex) (h : ∀ e ∈ l,1 ≤ g e) : l.length ≤ szL g l := by
  induction l with
  | nil => simp [szL]
  | cons e r ih =>
    have := ih (fun x hx => h x (by simp [hx]))
    have := h e (by simp)
    simp only [szL,List.foldr_cons,List.length_cons] at *
    omega
theorem sz_pos (m : Nat) (e : Ex) : 1 ≤ sz m e := by cases m <;> simp [sz]
theorem slot_at {slots env rest tmp : List Int} {SL base k : Nat} {y : Int} (h1 : slots.length = SL) (h2 : slots.take env.length = env) (hr : rest.length = base) (hy : env[k]? = some y) :
    (tmp ++ (slots.reverse ++ rest)).reverse[base + k]? = some y := by
  have hk : k < env.length := (List.getElem?_eq_some_iff.1 hy).1
  have hs : slots[k]? = some y := by
    rw [← h2,List.getElem?_take,if_pos hk] at hy
    exact hy
  have hk2 : k < slots.length := (List.getElem?_eq_some_iff.1 hs).1
  simp only [List.reverse_append,List.reverse_reverse,List.append_assoc]
  rw [List.getElem?_append_right (by simp; omega)]
  simp only [List.length_reverse,hr,Nat.add_sub_cancel_left]
  rw [List.getElem?_append_left hk2,hs]
theorem slot_set (slots rest tmp : List Int) (k base : Nat) (y : Int) (hr : rest.length = base) (hk : k < slots.length) :
    ((tmp ++ (slots.reverse ++ rest)).reverse.set (base + k) y).reverse = tmp ++ ((slots.set k y).reverse ++ rest) := by
  simp only [List.reverse_append,List.reverse_reverse,List.append_assoc]
  rw [List.set_append_right _ _ (by simp; omega)]
  simp only [List.length_reverse,hr,Nat.add_sub_cancel_left]
  rw [List.set_append_left _ _ hk]
  simp
theorem Does.bad {fs : List Fn} {fi base SL : Nat} {rest : List Int} {frs : List Fr} {env : List Int} {bound p len f : Nat} {vals : List Int} {r : Nat × Nat} (h : r.2 = 99) : Does fs fi base SL rest frs env bound p len f vals r :=
  fun _ _ _ _ _ => ⟨fun h0 => by omega,fun _ h9 => absurd h h9⟩
theorem cgs_one (g : Nat → Ex → List (Nat × Int)) (p : Nat) (a : Ex) : cgs g p [a] = g p a := by simp [cgs]
theorem exec_un_eq (fs : List Fn) (x : Fr) (r : List Fr) (st : List Int) (f op : Nat) (v a : Int) (h : op = 13 ∨ op = 14) : MS.exec fs op v x r (a :: st) f = some ⟨un1 op a :: st,x :: r,f,0⟩ := by
  rcases h with rfl | rfl <;> rfl
theorem exec_bin_eq (fs : List Fn) (x : Fr) (r : List Fr) (st : List Int) (f op : Nat) (v a b : Int) (h : 7 ≤ op ∧ op < 13) : MS.exec fs op v x r (b :: a :: st) f = if op = 12 ∧ b = 0 then some ⟨st,x :: r,f,12⟩ else some ⟨bin2 op a b :: st,x :: r,f,0⟩ := by
  unfold MS.exec
  simp only [show ¬ op = 0 by omega,show ¬ op = 1 by omega,show ¬ op = 2 by omega,show ¬ op = 3 by omega,show ¬ op = 4 by omega,show ¬ op = 5 by omega,show ¬ op = 6 by omega,show ¬ (op = 13 ∨ op = 14) by omega,show op < 13 by omega,if_false,if_true]
theorem mxL_le {g : Ex → Nat} {l : List Ex} {k SL : Nat} (h : mxL g l k ≤ SL) : ∀ x ∈ l,g x ≤ SL := by
  induction l with
  | nil => simp
  | cons a r ih =>
    have h' : max (g a) (mxL g r k) ≤ SL := h
    intro x hx
    rcases List.mem_cons.1 hx with rfl | hx
    · omega
    · exact ih (by omega) x hx
theorem mxL_ge {g : Ex → Nat} {l : List Ex} {k : Nat} : k ≤ mxL g l k := by
  induction l with
  | nil => exact Nat.le_refl _
  | cons a r ih => exact Nat.le_trans ih (Nat.le_max_right _ _)
theorem mx_ge (m k : Nat) (e : Ex) : k ≤ mx m k e := by
  induction m generalizing k e with
  | zero => exact Nat.le_refl _
  | succ m ih =>
    simp only [mx]
    split
    · split
      · exact Nat.le_trans (ih k _) (Nat.le_max_left _ _)
      · exact Nat.le_refl _
    · exact mxL_ge
theorem ev_does {fs : List Fn} {Fs : List PF} {N K : Nat} (hL : Linked fs Fs N K) (n : Nat) : ∀ (m d : Nat) (cal : List UInt8 → Nat) (sc : List (List UInt8)) (env : List Int) (e : Ex) (fi base SL : Nat) (rest : List Int) (frs : List Fr) (F0 : Fn),
    deep m e → fs[fi]? = some F0 → frs.length + 1 + d = 100 → sc.length = env.length → mx m sc.length e ≤ SL → sc.length ≤ SL → rest.length = base →
    ∀ p f pre post,F0.code = pre ++ cg cal m sc p e ++ post → pre.length = p →
    Does fs fi base SL rest frs env (sz m e + d * K) p (cg cal m sc p e).length f [(ev Fs n d cal sc env f e).1] (ev Fs n d cal sc env f e).2 := by
  induction n with
  | zero => intros; exact Does.bad rfl
  | succ n ih =>
    intro m d cal sc env e fi base SL rest frs F0 hd hF hfr hsc hmx hSL hrest p f pre post hc hp
    cases m with
    | zero => exact absurd hd (by simp [deep])
    | succ m =>
    have hd' : ∀ x ∈ e.parts,deep m x := hd
    have hsz : sz (m + 1) e = 1 + szL (sz m) e.parts := rfl
    by_cases k0 : e.kind = 0 ∨ e.kind = 1
    · have e1 : cg cal (m + 1) sc p e = [(0,e.value)] := by simp only [cg,k0,if_true]
      have e2 : ev Fs (n + 1) d cal sc env f e = (e.value,f,0) := by simp only [ev,k0,if_true]
      rw [e1] at hc ⊢
      rw [e2]
      intro tmp slots h1 h2 h3
      refine ⟨fun _ => ⟨slots,h1,h2,?_⟩,fun h => absurd rfl h⟩
      exact Steps.ins (i := 0) hF hc hp rfl (by simp; omega) rfl
    have k0a : ¬ e.kind = 0 := fun h => k0 (Or.inl h)
    have k0b : ¬ e.kind = 1 := fun h => k0 (Or.inr h)
    by_cases k2 : e.kind = 2
    · have e1 : cg cal (m + 1) sc p e = [(1,slotI sc e.name)] := by simp only [cg,k0,k2,if_true,if_false]; simp
      have e2 : ev Fs (n + 1) d cal sc env f e = (if 0 ≤ slotI sc e.name then (match env[(slotI sc e.name).toNat]? with | some y => (y,f,0) | none => (0,f,99)) else (0,f,99)) := by simp only [ev,k0,k2,if_true,if_false]; simp
      rw [e1] at hc ⊢
      rw [e2]
      split
      · next hs0 =>
        split
        · next y hy =>
          intro tmp slots h1 h2 h3
          refine ⟨fun _ => ⟨slots,h1,h2,?_⟩,fun h => absurd rfl h⟩
          refine Steps.ins (i := 0) hF hc hp rfl (by simp; omega) ?_
          have := slot_at (tmp := tmp) h1 h2 hrest hy
          show (if 0 ≤ slotI sc e.name then (match (tmp ++ (slots.reverse ++ rest)).reverse[base + (slotI sc e.name).toNat]? with | some y => some (⟨y :: (tmp ++ (slots.reverse ++ rest)),⟨fi,p + 0 + 1,base⟩ :: frs,f,0⟩ : MS) | none => none) else none) = _
          rw [if_pos hs0,this]
          rfl
        · exact Does.bad rfl
      · exact Does.bad rfl
    by_cases k4 : e.kind = 4
    · have e1 : cg cal (m + 1) sc p e = cgs (cg cal m sc) p (e.parts.take 1) := by simp only [cg,k0,k2,k4,if_true,if_false]; simp
      have e2 : ev Fs (n + 1) d cal sc env f e = (match e.parts with | [a] => ev Fs n d cal sc env f a | _ => (0,f,99)) := by simp only [ev,k0,k2,k4,if_true,if_false]; simp
      rw [e1] at hc ⊢
      rw [e2]
      split
      · next a ha =>
        rw [ha] at hc hsz ⊢
        simp only [List.take_succ_cons,List.take_zero,cgs_one] at hc ⊢
        have hmx' : mx m sc.length a ≤ SL := by
          simp only [mx,k4,ha] at hmx
          simp [mxL] at hmx
          omega
        have := ih m d cal sc env a fi base SL rest frs F0 (hd' a (by simp [ha])) hF hfr hsc hmx' hSL hrest p f pre post hc hp
        intro tmp slots h1 h2 h3
        exact this tmp slots h1 h2 (by simp [szL] at hsz; omega)
      · exact Does.bad rfl
    by_cases k5 : e.kind = 5
    · have e1 : cg cal (m + 1) sc p e = (match e.parts with
          | [a,b,c] => cg cal m sc p a ++ [(4,((p + (cg cal m sc p a).length + 1 + (cg cal m sc (p + (cg cal m sc p a).length + 1) b).length + 1 : Nat) : Int))] ++ cg cal m sc (p + (cg cal m sc p a).length + 1) b ++ [(3,((p + (cg cal m sc p a).length + 1 + (cg cal m sc (p + (cg cal m sc p a).length + 1) b).length + 1 + (cg cal m sc (p + (cg cal m sc p a).length + 1 + (cg cal m sc (p + (cg cal m sc p a).length + 1) b).length + 1) c).length : Nat) : Int))] ++ cg cal m sc (p + (cg cal m sc p a).length + 1 + (cg cal m sc (p + (cg cal m sc p a).length + 1) b).length + 1) c
          | _ => []) := by simp only [cg,k0,k2,k4,k5,if_true,if_false]; simp
      have e2 : ev Fs (n + 1) d cal sc env f e = (match e.parts with
          | [a,b,c] => if (ev Fs n d cal sc env f a).2.2 = 0 then (if (ev Fs n d cal sc env f a).1 = 0 then ev Fs n d cal sc env (ev Fs n d cal sc env f a).2.1 c else ev Fs n d cal sc env (ev Fs n d cal sc env f a).2.1 b) else (0,(ev Fs n d cal sc env f a).2)
          | _ => (0,f,99)) := by simp only [ev,k0,k2,k4,k5,if_true,if_false]; simp
      rw [e1] at hc ⊢
      rw [e2]
      clear e1 e2
      match hparts : e.parts with
      | [a,b,c] =>
        rw [hparts] at hc hsz hd'
        simp only at hc ⊢
        have hmxa : mx m sc.length a ≤ SL ∧ mx m sc.length b ≤ SL ∧ mx m sc.length c ≤ SL := by
          simp only [mx,k5,hparts] at hmx
          simp [mxL] at hmx
          omega
        have hsz3 : sz (m + 1) e = 1 + (sz m a + (sz m b + (sz m c + 0))) := hsz
        generalize hX : cg cal m sc p a = X at hc ⊢
        generalize hY : cg cal m sc (p + X.length + 1) b = Y at hc ⊢
        generalize hZ : cg cal m sc (p + X.length + 1 + Y.length + 1) c = Z at hc ⊢
        have A := ih m d cal sc env a fi base SL rest frs F0 (hd' a (by simp)) hF hfr hsc hmxa.1 hSL hrest p f pre ([(4,((p + X.length + 1 + Y.length + 1 : Nat) : Int))] ++ Y ++ [(3,((p + X.length + 1 + Y.length + 1 + Z.length : Nat) : Int))] ++ Z ++ post) (by rw [hX,hc]; simp only [List.append_assoc,List.cons_append,List.nil_append]) hp
        rw [hX] at A
        generalize hx : ev Fs n d cal sc env f a = x at A ⊢
        intro tmp slots h1 h2 h3
        have A' := A tmp slots h1 h2 (by omega)
        by_cases hw : x.2.2 = 0
        · rw [if_pos hw]
          obtain ⟨sl1,a1,a2,a3⟩ := A'.1 hw
          have hun : Steps fs ⟨x.1 :: (tmp ++ (sl1.reverse ++ rest)),⟨fi,p + X.length,base⟩ :: frs,x.2.1,0⟩ ⟨tmp ++ (sl1.reverse ++ rest),Fr.unl ⟨fi,p + X.length + 1,base⟩ x.1 (p + X.length + 1 + Y.length + 1) :: frs,x.2.1,0⟩ := by
            refine Steps.ins (c := X ++ [(4,((p + X.length + 1 + Y.length + 1 : Nat) : Int))] ++ Y ++ [(3,((p + X.length + 1 + Y.length + 1 + Z.length : Nat) : Int))] ++ Z) (v := ((p + X.length + 1 + Y.length + 1 : Nat) : Int)) (op := 4) (i := X.length) hF hc hp (by rw [List.append_assoc (X ++ _) Y,List.append_assoc (X ++ _)]; exact at_len _ _ _ _ rfl) (by simp; omega) ?_
            show (if (0 : Int) ≤ ((p + X.length + 1 + Y.length + 1 : Nat) : Int) then some (⟨tmp ++ (sl1.reverse ++ rest),Fr.unl ⟨fi,p + X.length + 1,base⟩ x.1 (((p + X.length + 1 + Y.length + 1 : Nat) : Int)).toNat :: frs,x.2.1,0⟩ : MS) else none) = _
            rw [if_pos (by omega),Int.toNat_natCast]
          have hlen : (X ++ [(4,((p + X.length + 1 + Y.length + 1 : Nat) : Int))] ++ Y ++ [(3,((p + X.length + 1 + Y.length + 1 + Z.length : Nat) : Int))] ++ Z).length = X.length + 1 + Y.length + 1 + Z.length := by simp; omega
          by_cases hz : x.1 = 0
          · rw [if_pos hz]
            have C := ih m d cal sc env c fi base SL rest frs F0 (hd' c (by simp)) hF hfr hsc hmxa.2.2 hSL hrest (p + X.length + 1 + Y.length + 1) x.2.1 (pre ++ (X ++ [(4,((p + X.length + 1 + Y.length + 1 : Nat) : Int))] ++ Y ++ [(3,((p + X.length + 1 + Y.length + 1 + Z.length : Nat) : Int))])) post (by rw [hZ,hc]; simp only [List.append_assoc,List.cons_append,List.nil_append]) (by simp [hp]; omega)
            rw [hZ] at C
            have C' := C tmp sl1 a1 a2 (by omega)
            have hpre : Steps fs ⟨tmp ++ (slots.reverse ++ rest),⟨fi,p,base⟩ :: frs,f,0⟩ ⟨tmp ++ (sl1.reverse ++ rest),⟨fi,p + X.length + 1 + Y.length + 1,base⟩ :: frs,x.2.1,0⟩ := by
              refine a3.trans ?_
              rw [show Fr.unl ⟨fi,p + X.length + 1,base⟩ x.1 (p + X.length + 1 + Y.length + 1) = ⟨fi,p + X.length + 1 + Y.length + 1,base⟩ by simp [Fr.unl,hz]] at hun
              exact hun
            refine ⟨fun h0 => ?_,fun h0 h9 => ?_⟩
            · obtain ⟨sl2,b1,b2,b3⟩ := C'.1 h0
              refine ⟨sl2,b1,b2,hpre.trans ?_⟩
              rw [hlen,show p + (X.length + 1 + Y.length + 1 + Z.length) = p + X.length + 1 + Y.length + 1 + Z.length by omega]
              exact b3
            · obtain ⟨t,b1,b2⟩ := C'.2 h0 h9
              exact ⟨t,hpre.trans b1,b2⟩
          · rw [if_neg hz]
            have C := ih m d cal sc env b fi base SL rest frs F0 (hd' b (by simp)) hF hfr hsc hmxa.2.1 hSL hrest (p + X.length + 1) x.2.1 (pre ++ (X ++ [(4,((p + X.length + 1 + Y.length + 1 : Nat) : Int))])) ([(3,((p + X.length + 1 + Y.length + 1 + Z.length : Nat) : Int))] ++ Z ++ post) (by rw [hY,hc]; simp only [List.append_assoc,List.cons_append,List.nil_append]) (by simp [hp]; omega)
            rw [hY] at C
            have C' := C tmp sl1 a1 a2 (by omega)
            have hpre : Steps fs ⟨tmp ++ (slots.reverse ++ rest),⟨fi,p,base⟩ :: frs,f,0⟩ ⟨tmp ++ (sl1.reverse ++ rest),⟨fi,p + X.length + 1,base⟩ :: frs,x.2.1,0⟩ := by
              refine a3.trans ?_
              rw [show Fr.unl ⟨fi,p + X.length + 1,base⟩ x.1 (p + X.length + 1 + Y.length + 1) = ⟨fi,p + X.length + 1,base⟩ by simp [Fr.unl,hz]] at hun
              exact hun
            refine ⟨fun h0 => ?_,fun h0 h9 => ?_⟩
            · obtain ⟨sl2,b1,b2,b3⟩ := C'.1 h0
              refine ⟨sl2,b1,b2,hpre.trans (b3.trans ?_)⟩
              rw [hlen,show p + X.length + 1 + Y.length = p + (X.length + 1 + Y.length) by omega]
              refine Steps.ins (c := X ++ [(4,((p + X.length + 1 + Y.length + 1 : Nat) : Int))] ++ Y ++ [(3,((p + X.length + 1 + Y.length + 1 + Z.length : Nat) : Int))] ++ Z) (v := ((p + X.length + 1 + Y.length + 1 + Z.length : Nat) : Int)) (op := 3) (i := X.length + 1 + Y.length) (p := p) (st := _ :: (tmp ++ (sl2.reverse ++ rest))) hF hc hp ?_ (by simp; omega) ?_
              · exact at_len _ _ _ _ (by simp; omega)
              · show (if (0 : Int) ≤ ((p + X.length + 1 + Y.length + 1 + Z.length : Nat) : Int) then some _ else none) = _
                rw [if_pos (by omega)]
                simp
                omega
            · obtain ⟨t,b1,b2⟩ := C'.2 h0 h9
              exact ⟨t,hpre.trans b1,b2⟩
        · rw [if_neg hw]
          exact ⟨fun h0 => absurd h0 hw,fun h0 h9 => A'.2 h0 h9⟩
      | [] => exact Does.bad rfl
      | [_] => exact Does.bad rfl
      | [_,_] => exact Does.bad rfl
      | _ :: _ :: _ :: _ :: _ => exact Does.bad rfl
    by_cases k6 : e.kind = 6
    · have e1 : cg cal (m + 1) sc p e = (match e.parts with
          | [a,b] => cg cal m sc p a ++ [(2,(sc.length : Int))] ++ cg cal m (sc ++ [e.name]) (p + (cg cal m sc p a).length + 1) b
          | _ => []) := by simp only [cg,k0,k2,k4,k5,k6,if_true,if_false]; simp
      have e2 : ev Fs (n + 1) d cal sc env f e = (match e.parts with
          | [a,b] => if (ev Fs n d cal sc env f a).2.2 = 0 then ev Fs n d cal (sc ++ [e.name]) (env ++ [(ev Fs n d cal sc env f a).1]) (ev Fs n d cal sc env f a).2.1 b else (0,(ev Fs n d cal sc env f a).2)
          | _ => (0,f,99)) := by simp only [ev,k0,k2,k4,k5,k6,if_true,if_false]; simp
      rw [e1] at hc ⊢
      rw [e2]
      clear e1 e2
      match hparts : e.parts with
      | [a,b] =>
        rw [hparts] at hc hsz hd'
        simp only at hc ⊢
        have hmxa : mx m sc.length a ≤ SL ∧ mx m (sc.length + 1) b ≤ SL := by
          simp only [mx,k6,hparts,if_true] at hmx
          omega
        have hlt : sc.length + 1 ≤ SL := Nat.le_trans (mx_ge m (sc.length + 1) b) hmxa.2
        have hsz3 : sz (m + 1) e = 1 + (sz m a + (sz m b + 0)) := hsz
        generalize hX : cg cal m sc p a = X at hc ⊢
        generalize hY : cg cal m (sc ++ [e.name]) (p + X.length + 1) b = Y at hc ⊢
        have A := ih m d cal sc env a fi base SL rest frs F0 (hd' a (by simp)) hF hfr hsc hmxa.1 hSL hrest p f pre ([(2,(sc.length : Int))] ++ Y ++ post) (by rw [hX,hc]; simp only [List.append_assoc,List.cons_append,List.nil_append]) hp
        rw [hX] at A
        generalize hx : ev Fs n d cal sc env f a = x at A ⊢
        intro tmp slots h1 h2 h3
        have A' := A tmp slots h1 h2 (by omega)
        by_cases hw : x.2.2 = 0
        · rw [if_pos hw]
          obtain ⟨sl1,a1,a2,a3⟩ := A'.1 hw
          have hst : Steps fs ⟨x.1 :: (tmp ++ (sl1.reverse ++ rest)),⟨fi,p + X.length,base⟩ :: frs,x.2.1,0⟩ ⟨tmp ++ ((sl1.set sc.length x.1).reverse ++ rest),⟨fi,p + X.length + 1,base⟩ :: frs,x.2.1,0⟩ := by
            refine Steps.ins (c := X ++ [(2,(sc.length : Int))] ++ Y) (v := (sc.length : Int)) (op := 2) (i := X.length) hF hc hp (at_len _ _ _ _ rfl) (by simp; omega) ?_
            show (if (0 : Int) ≤ (sc.length : Int) then (if base + (sc.length : Int).toNat < (tmp ++ (sl1.reverse ++ rest)).length then some (⟨((tmp ++ (sl1.reverse ++ rest)).reverse.set (base + (sc.length : Int).toNat) x.1).reverse,⟨fi,p + X.length + 1,base⟩ :: frs,x.2.1,0⟩ : MS) else none) else none) = _
            rw [if_pos (by omega),Int.toNat_natCast,if_pos (by simp; omega),slot_set _ _ _ _ _ _ hrest (by omega)]
          have htk : (sl1.set sc.length x.1).take (env ++ [x.1]).length = env ++ [x.1] := by
            simp only [List.length_append,List.length_cons,List.length_nil,← hsc]
            rw [List.take_succ_eq_append_getElem (by simp; omega)]
            simp only [List.getElem_set_self]
            rw [List.take_set_of_le (Nat.le_refl _),hsc,a2]
          have C := ih m d cal (sc ++ [e.name]) (env ++ [x.1]) b fi base SL rest frs F0 (hd' b (by simp)) hF hfr (by simp [hsc]) (by simpa using hmxa.2) (by simpa using hlt) hrest (p + X.length + 1) x.2.1 (pre ++ (X ++ [(2,(sc.length : Int))])) post (by rw [hY,hc]; simp only [List.append_assoc,List.cons_append,List.nil_append]) (by simp [hp]; omega)
          rw [hY] at C
          have C' := C tmp (sl1.set sc.length x.1) (by simpa using a1) htk (by omega)
          have hlen : (X ++ [(2,(sc.length : Int))] ++ Y).length = X.length + 1 + Y.length := by simp; omega
          refine ⟨fun h0 => ?_,fun h0 h9 => ?_⟩
          · obtain ⟨sl2,b1,b2,b3⟩ := C'.1 h0
            refine ⟨sl2,b1,?_,a3.trans (hst.trans ?_)⟩
            · have := congrArg (List.take env.length) b2
              rw [List.take_take] at this
              simpa using this
            · rw [hlen,show p + (X.length + 1 + Y.length) = p + X.length + 1 + Y.length by omega]
              exact b3
          · obtain ⟨t,b1,b2⟩ := C'.2 h0 h9
            exact ⟨t,a3.trans (hst.trans b1),b2⟩
        · rw [if_neg hw]
          exact ⟨fun h0 => absurd h0 hw,fun h0 h9 => A'.2 h0 h9⟩
      | [] => exact Does.bad rfl
      | [_] => exact Does.bad rfl
      | _ :: _ :: _ :: _ => exact Does.bad rfl
    have hmxp : ∀ x ∈ e.parts,mx m sc.length x ≤ SL := by
      simp only [mx,k6,if_false] at hmx
      exact mxL_le hmx
    have ARGS := evs_does (dK := d * K) (env := env) (F0 := F0) (fs := fs) (fi := fi) (base := base) (SL := SL) (rest := rest) (frs := frs) (sz m) (cg cal m sc) (ev Fs n d cal sc env) e.parts
      (fun x hx p f pre post hc hp => ih m d cal sc env x fi base SL rest frs F0 (hd' x hx) hF hfr hsc (hmxp x hx) hSL hrest p f pre post hc hp) (fun x _ => sz_pos m x)
    have hplen := szL_len (sz m) e.parts (fun x _ => sz_pos m x)
    by_cases k3 : e.kind = 3
    · have e1 : cg cal (m + 1) sc p e = cgs (cg cal m sc) p e.parts ++ [(5,(cal e.name : Int))] := by simp only [cg,k0,k2,k4,k5,k6,k3,if_true,if_false]; simp
      have e2 : ev Fs (n + 1) d cal sc env f e = (if (evs (ev Fs n d cal sc env) f e.parts).2.2 = 0 then
        (if (evs (ev Fs n d cal sc env) f e.parts).2.1 = 0 then (0,0,11) else if d = 0 then (0,(evs (ev Fs n d cal sc env) f e.parts).2.1,13)
        else match Fs[cal e.name]? with
          | none => (0,(evs (ev Fs n d cal sc env) f e.parts).2.1,99)
          | some F => if F.params.length = (evs (ev Fs n d cal sc env) f e.parts).1.length then ev Fs n (d - 1) F.cal F.params (evs (ev Fs n d cal sc env) f e.parts).1 ((evs (ev Fs n d cal sc env) f e.parts).2.1 - 1) F.body else (0,(evs (ev Fs n d cal sc env) f e.parts).2.1,99))
      else (0,(evs (ev Fs n d cal sc env) f e.parts).2)) := by simp only [ev,k0,k2,k4,k5,k6,k3,if_true,if_false]; simp
      rw [e1] at hc ⊢
      rw [e2]
      clear e1 e2
      have hlenE := evs_len (ev Fs n d cal sc env) e.parts f
      have A := ARGS p f pre ([(5,(cal e.name : Int))] ++ post) (by rw [hc]; simp only [List.append_assoc]) hp
      clear ARGS
      generalize hX : cgs (cg cal m sc) p e.parts = X at hc A ⊢
      generalize hx : evs (ev Fs n d cal sc env) f e.parts = x at A hlenE ⊢
      intro tmp slots h1 h2 h3
      have A' := A tmp slots h1 h2 (by omega)
      by_cases hw : x.2.2 = 0
      · rw [if_pos hw]
        obtain ⟨sl1,a1,a2,a3⟩ := A'.1 hw
        have hvl := hlenE hw
        have hcall : ∀ t,MS.call fs (cal e.name) ⟨x.1.reverse ++ (tmp ++ (sl1.reverse ++ rest)),⟨fi,p + X.length + 1,base⟩ :: frs,x.2.1,0⟩ = some t → Steps fs ⟨x.1.reverse ++ (tmp ++ (sl1.reverse ++ rest)),⟨fi,p + X.length,base⟩ :: frs,x.2.1,0⟩ t := by
          intro t ht
          refine Steps.ins (c := X ++ [(5,(cal e.name : Int))]) (v := (cal e.name : Int)) (op := 5) (i := X.length) hF hc hp (by simp) (by simp; omega) ?_
          show (if (0 : Int) ≤ (cal e.name : Int) then MS.call fs (cal e.name : Int).toNat _ else none) = _
          rw [if_pos (by omega),Int.toNat_natCast]
          exact ht
        by_cases hf0 : x.2.1 = 0
        · rw [if_pos hf0]
          refine ⟨fun h0 => by simp at h0,fun _ _ => ⟨_,a3.trans (hcall _ (by simp [MS.call,hf0]; rfl)),rfl⟩⟩
        · rw [if_neg hf0]
          by_cases hd0 : d = 0
          · rw [if_pos hd0]
            have : (⟨fi,p + X.length + 1,base⟩ :: frs : List Fr).length = 100 := by simp; omega
            refine ⟨fun h0 => by simp at h0,fun _ _ => ⟨_,a3.trans (hcall _ (by simp only [MS.call,hf0,this,if_true,if_false]; rfl)),rfl⟩⟩
          · rw [if_neg hd0]
            cases hFk : Fs[cal e.name]? with
            | none => exact ⟨fun h0 => by simp at h0,fun _ h9 => absurd rfl h9⟩
            | some F =>
              simp only
              by_cases hpl : F.params.length = x.1.length
              · rw [if_pos hpl]
                obtain ⟨fn,g1,g2,g3,g4,g5,g6,g7⟩ := hL _ _ hFk
                have hKd : d * K = K + (d - 1) * K := by
                  obtain ⟨q,rfl⟩ : ∃ q,d = q + 1 := ⟨d - 1,by omega⟩
                  rw [Nat.add_sub_cancel,Nat.add_mul,Nat.one_mul,Nat.add_comm]
                have hcl := hcall ⟨List.replicate (fn.slots - fn.params) 0 ++ (x.1.reverse ++ (tmp ++ (sl1.reverse ++ rest))),⟨cal e.name,0,(tmp ++ (sl1.reverse ++ rest)).length⟩ :: ⟨fi,p + X.length + 1,base⟩ :: frs,x.2.1 - 1,0⟩ (by
                  have h100 : ¬ (⟨fi,p + X.length + 1,base⟩ :: frs : List Fr).length = 100 := by simp; omega
                  simp only [MS.call,hf0,h100,g1,if_false]
                  rw [if_pos (by simp; omega)]
                  simp [g2,hpl])
                have B := ih N (d - 1) F.cal F.params x.1 F.body (cal e.name) (tmp ++ (sl1.reverse ++ rest)).length fn.slots (tmp ++ (sl1.reverse ++ rest)) (⟨fi,p + X.length + 1,base⟩ :: frs) fn g4 g1 (by simp; omega) hpl g5 (by omega) rfl 0 (x.2.1 - 1) [] [(6,0)] (by simpa using g3) rfl
                have B' := B [] (x.1 ++ List.replicate (fn.slots - fn.params) 0) (by simp; omega) (by simp) (by simp; omega)
                simp only [List.nil_append,List.reverse_append,List.reverse_replicate,List.append_assoc] at B'
                refine ⟨fun h0 => ?_,fun h0 h9 => ?_⟩
                · obtain ⟨sl2,b1,b2,b3⟩ := B'.1 h0
                  refine ⟨sl1,a1,a2,a3.trans (hcl.trans (b3.trans ?_))⟩
                  have hret := Steps.ins (fs := fs) (fi := cal e.name) (base := (tmp ++ (sl1.reverse ++ rest)).length) (F0 := fn) (pre := []) (c := cg F.cal N F.params 0 F.body ++ [(6,0)]) (post := []) (p := 0) (i := (cg F.cal N F.params 0 F.body).length) (op := 6) (v := 0) (frs := ⟨fi,p + X.length + 1,base⟩ :: frs) (st := (ev Fs n (d - 1) F.cal F.params x.1 (x.2.1 - 1) F.body).1 :: (sl2.reverse ++ (tmp ++ (sl1.reverse ++ rest)))) (f := (ev Fs n (d - 1) F.cal F.params x.1 (x.2.1 - 1) F.body).2.1) (t := ⟨(ev Fs n (d - 1) F.cal F.params x.1 (x.2.1 - 1) F.body).1 :: (tmp ++ (sl1.reverse ++ rest)),⟨fi,p + X.length + 1,base⟩ :: frs,(ev Fs n (d - 1) F.cal F.params x.1 (x.2.1 - 1) F.body).2.1,0⟩) g1 (by simpa using g3) rfl (by simp) (by simp; omega) (by
                    show (if (tmp ++ (sl1.reverse ++ rest)).length ≤ (sl2.reverse ++ (tmp ++ (sl1.reverse ++ rest))).length then some (⟨_ :: (sl2.reverse ++ (tmp ++ (sl1.reverse ++ rest))).drop ((sl2.reverse ++ (tmp ++ (sl1.reverse ++ rest))).length - (tmp ++ (sl1.reverse ++ rest)).length),_,_,0⟩ : MS) else none) = _
                    rw [if_pos (by simp),List.length_append,Nat.add_sub_cancel,List.drop_left])
                  have e3 : p + (X ++ [(5,(cal e.name : Int))]).length = p + X.length + 1 := by simp; omega
                  rw [e3]
                  exact hret
                · obtain ⟨t,b1,b2⟩ := B'.2 h0 h9
                  exact ⟨t,a3.trans (hcl.trans b1),b2⟩
              · rw [if_neg hpl]
                exact ⟨fun h0 => by simp at h0,fun _ h9 => absurd rfl h9⟩
      · rw [if_neg hw]
        exact ⟨fun h0 => absurd h0 hw,fun h0 h9 => A'.2 h0 h9⟩
    · have e1 : cg cal (m + 1) sc p e = cgs (cg cal m sc) p e.parts ++ [(opOf e.kind,0)] := by simp only [cg,k0,k2,k4,k5,k6,k3,if_false]
      have e2 : ev Fs (n + 1) d cal sc env f e = (if (evs (ev Fs n d cal sc env) f e.parts).2.2 = 0 then opv e.kind (evs (ev Fs n d cal sc env) f e.parts).1 (evs (ev Fs n d cal sc env) f e.parts).2.1 else (0,(evs (ev Fs n d cal sc env) f e.parts).2)) := by simp only [ev,k0,k2,k4,k5,k6,k3,if_false]
      rw [e1] at hc ⊢
      rw [e2]
      clear e1 e2
      have hlenE := evs_len (ev Fs n d cal sc env) e.parts f
      have A := ARGS p f pre ([(opOf e.kind,0)] ++ post) (by rw [hc]; simp only [List.append_assoc]) hp
      clear ARGS
      generalize hX : cgs (cg cal m sc) p e.parts = X at hc A ⊢
      generalize hx : evs (ev Fs n d cal sc env) f e.parts = x at A hlenE ⊢
      intro tmp slots h1 h2 h3
      have A' := A tmp slots h1 h2 (by omega)
      by_cases hw : x.2.2 = 0
      · rw [if_pos hw]
        obtain ⟨sl1,a1,a2,a3⟩ := A'.1 hw
        have hvl := hlenE hw
        have hop : ∀ t,MS.exec fs (opOf e.kind) 0 ⟨fi,p + X.length + 1,base⟩ frs (x.1.reverse ++ (tmp ++ (sl1.reverse ++ rest))) x.2.1 = some t → Steps fs ⟨x.1.reverse ++ (tmp ++ (sl1.reverse ++ rest)),⟨fi,p + X.length,base⟩ :: frs,x.2.1,0⟩ t := by
          intro t ht
          exact Steps.ins (c := X ++ [(opOf e.kind,0)]) (v := 0) (op := opOf e.kind) (i := X.length) hF hc hp (by simp) (by simp; omega) ht
        have e3 : p + (X ++ [(opOf e.kind,(0 : Int))]).length = p + X.length + 1 := by simp; omega
        rw [e3]
        match hv : x.1 with
        | [a] =>
          by_cases hk : e.kind = 13 ∨ e.kind = 14
          · have ho : opOf e.kind = e.kind := by unfold opOf; split <;> omega
            simp only [opv,hk,if_true]
            refine ⟨fun _ => ⟨sl1,a1,a2,a3.trans ?_⟩,fun h0 => absurd rfl h0⟩
            refine hop _ ?_
            rw [hv,ho]
            have := exec_un_eq fs ⟨fi,p + X.length + 1,base⟩ frs (tmp ++ (sl1.reverse ++ rest)) x.2.1 e.kind 0 a hk
            simpa using this
          · simp only [opv,hk,if_false]
            exact ⟨fun h0 => by simp at h0,fun _ h9 => absurd rfl h9⟩
        | [a,b] =>
          by_cases hk : 7 ≤ e.kind ∧ e.kind < 13
          · have ho : opOf e.kind = e.kind := by unfold opOf; split <;> omega
            have hex := exec_bin_eq fs ⟨fi,p + X.length + 1,base⟩ frs (tmp ++ (sl1.reverse ++ rest)) x.2.1 e.kind 0 a b hk
            simp only [opv,hk,and_self,if_true]
            by_cases hz : e.kind = 12 ∧ b = 0
            · rw [if_pos hz] at hex ⊢
              refine ⟨fun h0 => by simp at h0,fun _ _ => ⟨⟨tmp ++ (sl1.reverse ++ rest),⟨fi,p + X.length + 1,base⟩ :: frs,x.2.1,12⟩,a3.trans (hop _ ?_),rfl⟩⟩
              rw [hv,ho]
              simpa using hex
            · rw [if_neg hz] at hex ⊢
              refine ⟨fun _ => ⟨sl1,a1,a2,a3.trans ?_⟩,fun h0 => absurd rfl h0⟩
              refine hop _ ?_
              rw [hv,ho]
              simpa using hex
          · simp only [opv,hk,if_false]
            exact ⟨fun h0 => by simp at h0,fun _ h9 => absurd rfl h9⟩
        | [] => exact ⟨fun h0 => by simp [opv] at h0,fun _ h9 => absurd rfl h9⟩
        | _ :: _ :: _ :: _ => exact ⟨fun h0 => by simp [opv] at h0,fun _ h9 => absurd rfl h9⟩
      · rw [if_neg hw]
        exact ⟨fun h0 => absurd h0 hw,fun h0 h9 => A'.2 h0 h9⟩
end Go.Proofs.YtpmmjkiclngpmaaGreatDoor
