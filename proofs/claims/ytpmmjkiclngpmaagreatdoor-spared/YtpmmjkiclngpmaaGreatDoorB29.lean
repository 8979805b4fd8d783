/- YtpmmjkiclngpmaaGreatDoorB29 -/
import Derived.Test.YtpmmjkiclngpmaaGreatDoorB28
import Derived.Test.YtpmmjkiclngpmaaGreatDoorB25
set_option maxRecDepth 100000
set_option linter.unusedSimpArgs false
set_option linter.unusedVariables false
set_option maxHeartbeats 12800000
namespace Go.Proofs.YtpmmjkiclngpmaaGreatDoor
open Go.RowKit
def useV (md : Mod) (ims : List (Option Mod)) (name : List UInt8) : List Us := match firstG false name md.funs with | some _ => [] | none => useI name (md.imports.zip ims)
def lookE (md : Mod) (ims : List (Option Mod)) : Look := ⟨lookV md ims,fun n => (useV md ims n).take 1000,fun n => by rw [List.length_take]; omega⟩
def whoI (name : List UInt8) : List (Imp × Option Mod) → List UInt8
  | [] => []
  | x :: r => match expG x.2 name with
    | some _ => x.1.name
    | none => whoI name r
def symV (vn : List UInt8) (md : Mod) (ims : List (Option Mod)) (name : List UInt8) : List UInt8 × List UInt8 :=
  ((match firstG false name md.funs with | some _ => vn | none => whoI name (md.imports.zip ims)),name)
def fndE (vn : List UInt8) (md : Mod) (ims : List (Option Mod)) : Fnd := ⟨symV vn md ims,fun n => (useV md ims n).take 1000,fun n => by rw [List.length_take]; omega⟩
def knownV (md : Mod) (ims : List (Option Mod)) (name : List UInt8) : Prop := (lookV md ims name).isSome = true
theorem lookI_exp (name : List UInt8) (x : Option Mod) (r : List (Option Mod)) : lookI name (x :: r) = match expG x name with | some f => some f | none => lookI name r := by
  cases x with
  | none => rfl
  | some md => rfl
theorem sndI_zip (l : List Imp) (ims : List (Option (Nat × Mod))) : sndI (l.zip ims) = l.zip (ims.map fun x => x.map Prod.snd) := by
  unfold sndI
  rw [List.zip_map_right]; rfl
theorem useP_useV (md : Mod) (ims : List (Option (Nat × Mod))) (name : List UInt8) : useP md ims name = useV md (ims.map fun x => x.map Prod.snd) name := by
  unfold useP useV
  rcases firstF_map false name md.funs 0 with ⟨a,b⟩ | ⟨j,f,a,b,c⟩
  · simp only [namesOf,a,b]
    rw [sndI_zip]
  · simp only [namesOf,a,b]
theorem useV_len (md : Mod) (ims : List (Option Mod)) (h : ims.length ≤ 1000) (name : List UInt8) : (useV md ims name).take 1000 = useV md ims name := by
  refine List.take_of_length_le ?_
  unfold useV
  split
  · simp
  · have := useI_len name (md.imports.zip ims)
    rw [List.length_zip] at this
    omega
theorem FunAt.sig {m : Nat} {S : Nat → Prop} {B : Nat} {w : World} {g o : Nat} {f : Fun} (h : FunAt m S B w g o f) : SigAt B w g o (sigOf f).1 (sigOf f).2 := by
  obtain ⟨pv,bv,b0,b1,b2,b3,b4,b5,b6,b7,b8,b9,⟨po,pc,hpv,hpr⟩,hpa⟩ := h
  refine ⟨b4,po,pc,by rw [b3,hpv]; simp [sigOf],fun hpos => ?_⟩
  obtain ⟨gb,rfl,hgb,hl,hcell⟩ := hpr (by simpa [sigOf] using hpos)
  refine ⟨gb,rfl,hgb,by simpa [sigOf] using hl,fun i hi => ?_⟩
  have hi' : i < f.params.length := by simpa [sigOf] using hi
  simp only [sigOf,List.getElem_map]
  exact (hcell i hi').2.2
theorem ModAt.fun' {m : Nat} {S : Nat → Prop} {B : Nat} {w : World} {mb : Nat} {md : Mod} (h : ModAt m S B w mb md) (j : Nat) (hj : j < md.funs.length) : rowOf w mb < B ∧ FunAt m S B w (rowOf w mb) (j * 10) md.funs[j] := by
  obtain ⟨fo,fc,hc,hr⟩ := h.funs
  obtain ⟨g,rfl,h2,h3,h4⟩ := hr (by omega)
  have e : rowOf w mb = g := by simp [rowOf,hc]
  rw [e]
  exact ⟨h2,h4 j hj⟩
theorem exp_atB {m : Nat} {S : Nat → Prop} {B : Nat} {w : World} {x : Option (Nat × Mod)} (h : MayAt m S B w x) (name : List UInt8) :
    (expP w x name = none ∧ expG (x.map Prod.snd) name = none) ∨ ∃ f g o,expP w x name = some ⟨g,o,none⟩ ∧ expG (x.map Prod.snd) name = some f ∧ g < B ∧ FunAt m S B w g o f ∧ f.params.length ≤ 100000 := by
  rcases x with _ | y
  · exact Or.inl ⟨rfl,rfl⟩
  · obtain ⟨h1,h2,h3⟩ := h y rfl
    rcases firstF_map true name y.2.funs 0 with ⟨a,b⟩ | ⟨j,f,a,b,c⟩
    · exact Or.inl ⟨by simp [expP,namesOf,a,ptrF],by simpa [expG] using b⟩
    · obtain ⟨hj,rfl⟩ := List.getElem?_eq_some_iff.1 c
      obtain ⟨q1,q2⟩ := h1.fun' j hj
      exact Or.inr ⟨_,rowOf w y.1,j * 10,by simp [expP,namesOf,a,ptrF],by simpa [expG] using b,q1,q2,h3 _ (List.getElem_mem hj)⟩
theorem findIP_at {m : Nat} {S : Nat → Prop} {B : Nat} {w : World} (name : List UInt8) : ∀ (l : List (Imp × Option (Nat × Mod))),(∀ x ∈ l,MayAt m S B w x.2) →
    (findIP w name l = ([],none) ∧ lookI name ((sndI l).map Prod.snd) = none) ∨ ∃ f g o,findIP w name l = (whoI name (sndI l),some ⟨g,o,none⟩) ∧ lookI name ((sndI l).map Prod.snd) = some f ∧ g < B ∧ FunAt m S B w g o f ∧ f.params.length ≤ 100000 := by
  intro l
  induction l with
  | nil => intro _; exact Or.inl ⟨rfl,rfl⟩
  | cons x r ih =>
    intro h
    have e1 : (sndI (x :: r)).map Prod.snd = x.2.map Prod.snd :: (sndI r).map Prod.snd := rfl
    have e2 : sndI (x :: r) = (x.1,x.2.map Prod.snd) :: sndI r := rfl
    rw [e1,e2,lookI_exp]
    unfold findIP whoI
    rcases exp_atB (h x (by simp)) name with ⟨a,b⟩ | ⟨f,g,o,a,b,c⟩
    · simp only [a,b]
      exact ih (fun z hz => h z (by simp [hz]))
    · simp only [a,b]
      exact Or.inr ⟨f,g,o,rfl,rfl,c⟩
theorem findIP_below {m : Nat} {S : Nat → Prop} {lo : Nat} {w w' : World} (hb : Below lo w w') (name : List UInt8) : ∀ (l : List (Imp × Option (Nat × Mod))),(∀ x ∈ l,MayAt m S lo w x.2) → findIP w' name l = findIP w name l := by
  intro l
  induction l with
  | nil => intro _; rfl
  | cons x r ih =>
    intro h
    unfold findIP
    rw [expP_below (h x (by simp)) hb name,ih (fun z hz => h z (by simp [hz]))]
theorem Trees.findP {m : Nat} {S : Nat → Prop} {B : Nat} {w0 w : World} {V : VK} {md : Mod} {ims : List (Option (Nat × Mod))} (h : Trees m S B w0 V md ims) (hb : Below B w0 w) (name : List UInt8) :
    (lookV md (ims.map fun x => x.map Prod.snd) name = none ∧ findP w V md ims name = ([],none)) ∨
    ∃ f g o,lookV md (ims.map fun x => x.map Prod.snd) name = some (sigOf f) ∧ findP w V md ims name = ((symV V.nm md (ims.map fun x => x.map Prod.snd) name).1,some ⟨g,o,none⟩) ∧ g < B ∧ FunAt m S B w0 g o f ∧ f.params.length ≤ 100000 := by
  have hz : ((sndI (md.imports.zip ims)).map Prod.snd) = ims.map fun x => x.map Prod.snd := by
    rw [sndI_zip,List.map_snd_zip (by rw [List.length_map,h.len]; exact Nat.le_refl _)]
  have hm : ∀ x ∈ md.imports.zip ims,MayAt m S B w0 x.2 := fun x hx => h.them _ (List.of_mem_zip hx).2
  have hrow : rowOf w V.mb = rowOf w0 V.mb := by unfold rowOf; rw [below_cell hb h.me.lt 1]
  unfold Go.Proofs.YtpmmjkiclngpmaaGreatDoor.findP lookV symV
  rcases firstF_map false name md.funs 0 with ⟨a,b⟩ | ⟨j,f,a,b,c⟩
  · simp only [namesOf,a,b,ptrF,Option.map_none]
    rw [findIP_below hb name _ hm]
    have := findIP_at name _ hm
    rw [hz,sndI_zip] at this
    rcases this with ⟨r1,r2⟩ | ⟨f,g,o,r1,r2,r3⟩
    · exact Or.inl ⟨by rw [r2]; rfl,r1⟩
    · exact Or.inr ⟨f,g,o,by rw [r2]; rfl,r1,r3⟩
  · simp only [namesOf,a,b,ptrF,Option.map_some]
    obtain ⟨hj,rfl⟩ := List.getElem?_eq_some_iff.1 c
    obtain ⟨q1,q2⟩ := h.me.fun' j hj
    exact Or.inr ⟨_,rowOf w0 V.mb,j * 10,rfl,by rw [hrow,Nat.zero_add],q1,q2,h.my.2 _ (List.getElem_mem hj)⟩
theorem Trees.findK {m : Nat} {S : Nat → Prop} {B : Nat} {w0 : World} {V : VK} {md : Mod} {ims : List (Option (Nat × Mod))} (h : Trees m S B w0 V md ims) : FindK B w0 V (lookE md (ims.map fun x => x.map Prod.snd)) := by
  intro name lk uv w hb hv hl
  refine (find_any w V lk uv hv md ims (h.below hb) name (by omega)).mono ?_
  rintro e w' ⟨rfl,uv',h1,h2⟩
  refine ⟨?_,uv',h1,?_⟩
  · rcases h.findP hb name with ⟨r1,r2⟩ | ⟨f,g,o,r1,r2,r3,r4,r5⟩
    · exact Or.inl ⟨r1,_,by rw [r2]⟩
    · refine Or.inr ⟨_,_,_,g,o,r1,by rw [r2],r3,r4.sig,?_⟩
      simpa [sigOf] using r5
  · show Vw B V (lk ++ (useV md _ name).take 1000) uv' w'
    rw [useV_len md _ (by rw [List.length_map]; exact h.few),← useP_useV]
    exact h2
theorem Trees.findC {m : Nat} {S : Nat → Prop} {B : Nat} {w0 : World} {V : VK} {md : Mod} {ims : List (Option (Nat × Mod))} (h : Trees m S B w0 V md ims) (C : CK) (tb : Nat → Prop) (w1 : World) (hc : C.c0 = .pointer (some ⟨V.b,0,none⟩)) (hV : C.V = V) (h1 : Below B w0 w1) :
    FindC ⟨B,tb⟩ w1 C (fndE V.nm md (ims.map fun x => x.map Prod.snd)) (knownV md (ims.map fun x => x.map Prod.snd)) := by
  intro name lk uv w hk hb hv hl
  have hb' : Below B w0 w := h1.trans hb.bel
  rw [hc,hV] at *
  refine (find_any w V lk uv hv md ims (h.below hb') name hl).mono ?_
  rintro e w' ⟨rfl,uv',q1,q2⟩
  refine ⟨?_,rfl,uv',q1,?_⟩
  · rcases h.findP hb' name with ⟨r1,r2⟩ | ⟨f,g,o,r1,r2,r3,r4,r5⟩
    · unfold knownV at hk
      rw [r1] at hk
      cases hk
    · exact ⟨_,by rw [r2]; rfl⟩
  · show Vw B V (lk ++ (useV md _ name).take 1000) uv' w'
    rw [useV_len md _ (by rw [List.length_map]; exact h.few),← useP_useV]
    exact q2
end Go.Proofs.YtpmmjkiclngpmaaGreatDoor
