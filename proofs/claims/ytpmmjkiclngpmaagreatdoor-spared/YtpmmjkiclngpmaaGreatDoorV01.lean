/- YtpmmjkiclngpmaaGreatDoorV01 -/
import Derived.Test.YtpmmjkiclngpmaaGreatDoorB08
import Derived.Test.YtpmmjkiclngpmaaGreatDoorB43
import Derived.Test.YtpmmjkiclngpmaaGreatDoorB25
import Derived.Test.YtpmmjkiclngpmaaGreatDoorB11
import Derived.Test.YtpmmjkiclngpmaaGreatDoorB22
import Derived.Test.YtpmmjkiclngpmaaGreatDoorB42
import Derived.Test.YtpmmjkiclngpmaaGreatDoorB44
set_option maxRecDepth 100000
set_option linter.unusedSimpArgs false
set_option linter.unusedVariables false
set_option maxHeartbeats 12800000
namespace Go.Proofs.YtpmmjkiclngpmaaGreatDoor
open Go.RowKit
def runV (Fs : List PF) (n k : Nat) (args : List Int) (fuel : Nat) : Int × Nat :=
  if fuel = 0 then (0,11)
  else match Fs[k]? with
    | none => (0,99)
    | some F => ((if (ev Fs n 99 F.cal F.params args (fuel - 1) F.body).2.2 = 0 then (ev Fs n 99 F.cal F.params args (fuel - 1) F.body).1 else 0),(ev Fs n 99 F.cal F.params args (fuel - 1) F.body).2.2)
theorem run_plain {fs : List Fn} {Fs : List PF} {N K : Nat} (hL : Linked fs Fs N K) (hK : 100 * K ≤ 1000000) (n k : Nat) (F : PF) (hF : Fs[k]? = some F) (args : List Int) (ha : args.length = F.params.length) (fuel : Nat) (h9 : (runV Fs n k args fuel).2 ≠ 99) :
    ∃ s1 t n',MS.call fs k ⟨args.reverse,[],fuel,0⟩ = some s1 ∧ StepsN fs n' s1 t ∧ (t.wrong ≠ 0 ∨ t.frames = []) ∧ (t.wrong = 0 → ∃ y q,t.stack = y :: q ∧ q.length ≤ 1000000) ∧ outOf t = runV Fs n k args fuel := by
  obtain ⟨fn,g1,g2,g3,g4,g5,g6,g7⟩ := hL k F hF
  by_cases hf : fuel = 0
  · refine ⟨⟨args.reverse,[],fuel,11⟩,⟨args.reverse,[],fuel,11⟩,0,by simp [MS.call,hf],rfl,Or.inl (by simp),fun h => by simp at h,?_⟩
    simp [outOf,runV,hf]
  · have hr : runV Fs n k args fuel = ((if (ev Fs n 99 F.cal F.params args (fuel - 1) F.body).2.2 = 0 then (ev Fs n 99 F.cal F.params args (fuel - 1) F.body).1 else 0),(ev Fs n 99 F.cal F.params args (fuel - 1) F.body).2.2) := by simp [runV,hf,hF]
    have B := ev_does hL n N 99 F.cal F.params args F.body k 0 fn.slots [] [] fn g4 g1 (by simp) ha.symm g5 (by omega) rfl 0 (fuel - 1) [] [(6,0)] (by simpa using g3) rfl
    have B' := B [] (args ++ List.replicate (fn.slots - fn.params) 0) (by simp; omega) (by simp) (by simp; omega)
    simp only [List.nil_append,List.append_nil,List.reverse_append,List.reverse_replicate] at B'
    rw [hr] at h9 ⊢
    generalize ev Fs n 99 F.cal F.params args (fuel - 1) F.body = r at B' h9 ⊢
    simp only at h9
    have hcall : MS.call fs k ⟨args.reverse,[],fuel,0⟩ = some ⟨List.replicate (fn.slots - fn.params) 0 ++ args.reverse,[⟨k,0,0⟩],fuel - 1,0⟩ := by
      simp only [MS.call,hf,if_false,g1]
      rw [if_neg (by simp),if_pos (by simp; omega)]
      simp [g2,ha]
    by_cases hw : r.2.2 = 0
    · obtain ⟨sl,b1,b2,n1,b3⟩ := B'.1 hw
      have hret : Steps fs ⟨[r.1].reverse ++ sl.reverse,[⟨k,0 + (cg F.cal N F.params 0 F.body).length,0⟩],r.2.1,0⟩ ⟨[r.1],[],r.2.1,0⟩ := by
        refine Steps.ins (pre := []) (c := cg F.cal N F.params 0 F.body ++ [(6,0)]) (post := []) (p := 0) (i := (cg F.cal N F.params 0 F.body).length) (op := 6) (v := 0) g1 (by simpa using g3) rfl (by simp) (by simp; omega) ?_
        show (if 0 ≤ sl.reverse.length then some (⟨r.1 :: sl.reverse.drop (sl.reverse.length - 0),[],r.2.1,0⟩ : MS) else none) = _
        rw [if_pos (by omega)]
        simp
      obtain ⟨n2,hn2⟩ := hret
      refine ⟨_,⟨[r.1],[],r.2.1,0⟩,n1 + n2,hcall,b3.trans hn2,Or.inr rfl,fun _ => ⟨r.1,[],rfl,by simp⟩,?_⟩
      simp [outOf,hw]
    · obtain ⟨t,⟨n1,b1⟩,b2⟩ := B'.2 hw h9
      refine ⟨_,t,n1,hcall,b1,Or.inl (by rw [b2]; exact hw),fun h => absurd (b2.symm.trans h) hw,?_⟩
      have : ¬ t.wrong = 0 := fun h => hw (b2.symm.trans h)
      simp [outOf,this,b2,hw]
end Go.Proofs.YtpmmjkiclngpmaaGreatDoor
namespace Go.Proofs.YtpmmjkiclngpmaaGreatDoor
open Go.RowKit
theorem Shp.deep {known : List UInt8 → Prop} (m : Nat) : ∀ e,Shp known m e → deep m e := by
  induction m with
  | zero => intro e h; exact h
  | succ m ih => intro e h x hx; exact ih x (h.2.2.2.2.2 x hx)
def Slo (s t : CS) (k : Nat) : Prop := s.slots ≤ t.slots ∧ k ≤ t.slots ∧ t.scope = s.scope
theorem gens_slo {g : Ex → CS → CS} {M : Nat → Ex → Nat} (l : List Ex) (h : ∀ x ∈ l,∀ s : CS,s.scope.length ≤ s.slots → Slo s (g x s) (M s.scope.length x)) (s : CS) (hs : s.scope.length ≤ s.slots) :
    Slo s (gens g l s) (mxL (M s.scope.length) l s.scope.length) := by
  induction l generalizing s with
  | nil => exact ⟨Nat.le_refl _,hs,rfl⟩
  | cons x r ih =>
    have h1 := h x (by simp) s hs
    have h2 := ih (fun y hy => h y (by simp [hy])) (g x s) (by rw [h1.2.2]; exact Nat.le_trans hs h1.1)
    rw [h1.2.2] at h2
    obtain ⟨a1,a2,a3⟩ := h1
    obtain ⟨b1,b2,b3⟩ := h2
    refine ⟨Nat.le_trans a1 b1,?_,by show (gens g r (g x s)).scope = _; rw [b3,a3]⟩
    show max (M s.scope.length x) (mxL (M s.scope.length) r s.scope.length) ≤ (gens g r (g x s)).slots
    omega
theorem gen_slo {known : List UInt8 → Prop} (fnd : Fnd) (m : Nat) : ∀ (e : Ex) (s : CS),Shp known m e → Leafy m e → s.scope.length ≤ s.slots → Slo s (gen fnd m e s) (mx m s.scope.length e) := by
  induction m with
  | zero => intro e s h _ _; exact absurd h (by simp [Shp])
  | succ m ih =>
    intro e s h hl hs
    obtain ⟨q1,q4,q5,q6,q3,hp⟩ := h
    obtain ⟨l0,lp⟩ := hl
    have hall : Slo s (gens (gen fnd m) e.parts s) (mxL (mx m s.scope.length) e.parts s.scope.length) := gens_slo (g := gen fnd m) (M := mx m) e.parts (fun x hx s hs => ih x s (hp x hx) (lp x hx) hs) s hs
    by_cases k6 : e.kind = 6
    · obtain ⟨a,b,hab⟩ := len2 (q6 k6)
      unfold gen mx
      rw [if_pos k6,if_neg (by omega),if_neg (by omega),if_neg (by omega),if_neg (by omega),if_pos k6,hab]
      simp only
      have h1 := ih a s (hp a (by simp [hab])) (lp a (by simp [hab])) hs
      unfold CS.lets
      generalize gen fnd m a s = s1 at *
      obtain ⟨a1,a2,a3⟩ := h1
      have h2 := ih b ((s1.enter e.name).emit 2 s1.scope.length) (hp b (by simp [hab])) (lp b (by simp [hab])) (by simp [CS.enter,CS.emit]; omega)
      have e2 : ((s1.enter e.name).emit 2 s1.scope.length).scope = s.scope ++ [e.name] := by rw [← a3]; rfl
      have e3 : s1.slots ≤ ((s1.enter e.name).emit 2 s1.scope.length).slots := by simp [CS.enter,CS.emit]; omega
      unfold Slo at h2
      rw [e2] at h2
      simp only [List.length_append,List.length_cons,List.length_nil,Nat.zero_add] at h2
      generalize gen fnd m b ((s1.enter e.name).emit 2 s1.scope.length) = s2 at *
      obtain ⟨b1,b2,b3⟩ := h2
      refine ⟨by simp only; omega,by simp only; omega,?_⟩
      show s2.scope.take _ = _
      rw [b3]; simp
    · unfold mx
      rw [if_neg k6]
      unfold gen
      split
      · next hk => rw [l0 (by omega)]; exact ⟨Nat.le_refl _,hs,rfl⟩
      split
      · next hk => rw [l0 (by omega)]; exact ⟨Nat.le_refl _,hs,rfl⟩
      split
      · next hk => rw [List.take_of_length_le (by rw [q4 hk]; omega)]; exact hall
      split
      · next hk =>
        obtain ⟨a,b,c,habc⟩ := len3 (q5 hk)
        rw [habc]
        simp only
        have h1 := ih a s (hp a (by simp [habc])) (lp a (by simp [habc])) hs
        unfold CS.ifs
        generalize gen fnd m a s = s1 at *
        obtain ⟨a1,a2,a3⟩ := h1
        have h2 := ih b (s1.emit 4 0) (hp b (by simp [habc])) (lp b (by simp [habc])) (by show s1.scope.length ≤ s1.slots; rw [a3]; omega)
        rw [show (s1.emit 4 0).scope = s.scope from a3] at h2
        generalize gen fnd m b (s1.emit 4 0) = s3 at *
        obtain ⟨b1,b2,b3⟩ := h2
        have b3' : s3.scope = s.scope := b3.trans a3
        have b1' : s1.slots ≤ s3.slots := b1
        have h3 := ih c ((s3.emit 3 0).land s1.code.length) (hp c (by simp [habc])) (lp c (by simp [habc])) (by show s3.scope.length ≤ s3.slots; rw [b3']; omega)
        rw [show ((s3.emit 3 0).land s1.code.length).scope = s.scope from b3'] at h3
        generalize gen fnd m c ((s3.emit 3 0).land s1.code.length) = s6 at *
        obtain ⟨c1,c2,c3⟩ := h3
        have c1' : s3.slots ≤ s6.slots := c1
        have c3' : s6.scope = s.scope := c3.trans b3'
        refine ⟨by show s.slots ≤ s6.slots; omega,?_,c3'⟩
        show max (mx m s.scope.length a) (max (mx m s.scope.length b) (max (mx m s.scope.length c) s.scope.length)) ≤ s6.slots
        omega
      split
      · exact hall
      · exact hall
theorem enters_scope (l : List Prm) (s : CS) : (enters l s).scope = s.scope ++ l.map (fun x => x.name) := by
  induction l generalizing s with
  | nil => simp [enters]
  | cons x r ih => show (enters r _).scope = _; rw [ih]; simp [CS.enter]
theorem enters_slots (l : List Prm) (s : CS) (h : s.slots = s.scope.length) : (enters l s).slots = s.scope.length + l.length := by
  induction l generalizing s with
  | nil => simpa [enters] using h
  | cons x r ih =>
    show (enters r _).slots = _
    rw [ih _ (by simp [CS.enter]; omega)]
    simp [CS.enter]; omega
theorem codeOf_linked (fnd : Fnd) (pl : Sym → Nat) (m : Nat) (f : Fun) (lk : List Us) :
    (codeOf fnd m f lk).code.map (lnk pl (codeOf fnd m f lk).calls) = cg (fun n => pl (fnd.sym n)) (m + 1) (f.params.map fun x => x.name) 0 f.body ++ [(6,0)] := by
  have hel := enters_len f.params (begun lk) (by simp [begun])
  have h := (gen_cg fnd pl (m + 1) f.body (enters f.params (begun lk))).trans (Gn.emit pl _ 6 0 (by omega))
  rw [enters_scope,hel.2.2.1] at h
  obtain ⟨d,k,h1,h2,h3,_⟩ := h
  have h4 := h3 []
  rw [hel.2.2.1] at h1
  unfold codeOf
  rw [h1,← List.append_nil (CS.calls _)]
  simpa [begun] using h4
theorem codeOf_slots {known : List UInt8 → Prop} (fnd : Fnd) (m : Nat) (f : Fun) (lk : List Us) (h : Shp known (m + 1) f.body) (hl : Leafy (m + 1) f.body) :
    mx (m + 1) f.params.length f.body ≤ (codeOf fnd m f lk).slots ∧ f.params.length ≤ (codeOf fnd m f lk).slots ∧ (codeOf fnd m f lk).slots ≤ f.params.length + sz (m + 1) f.body := by
  have hel := enters_len f.params (begun lk) (by simp [begun])
  have hsl := enters_slots f.params (begun lk) rfl
  simp only [begun,List.length_nil,Nat.zero_add] at hsl hel
  have hg := gen_slo (known := known) fnd (m + 1) f.body (enters f.params (begun lk)) h hl (by unfold begun; omega)
  have hw := (gen_grew fnd (m + 1) f.body (enters f.params (begun lk))).slots
  unfold begun at hg hw
  obtain ⟨a,b,c⟩ := hg
  rw [hel.1] at b hw
  unfold codeOf begun
  refine ⟨b,by simp only [CS.emit]; omega,by simp only [CS.emit]; omega⟩
end Go.Proofs.YtpmmjkiclngpmaaGreatDoor
namespace Go.Proofs.YtpmmjkiclngpmaaGreatDoor
open Go.RowKit
def All2 {α β : Type} (Q : α → β → Prop) : List α → List β → Prop
  | [],[] => True
  | a :: l,b :: r => Q a b ∧ All2 Q l r
  | _,_ => False
theorem All2.len {α β : Type} {Q : α → β → Prop} : ∀ {l : List α} {r : List β},All2 Q l r → l.length = r.length
  | [],[],_ => rfl
  | _ :: _,_ :: _,h => by simp only [List.length_cons]; rw [h.2.len]
  | [],_ :: _,h => h.elim
  | _ :: _,[],h => h.elim
theorem All2.at {α β : Type} {Q : α → β → Prop} : ∀ {l : List α} {r : List β},All2 Q l r → ∀ {k : Nat} {b : β},r[k]? = some b → ∃ a,l[k]? = some a ∧ Q a b
  | [],[],_,k,b,h => by simp at h
  | a :: l,b :: r,hq,0,c,h => by simp at h; subst h; exact ⟨a,rfl,hq.1⟩
  | a :: l,b :: r,hq,k + 1,c,h => by
    have h' : r[k]? = some c := by simpa using h
    obtain ⟨x,h1,h2⟩ := hq.2.at h'
    exact ⟨x,by simpa using h1,h2⟩
  | [],_ :: _,h,_,_,_ => h.elim
  | _ :: _,[],h,_,_,_ => h.elim
theorem All2.append {α β : Type} {Q : α → β → Prop} : ∀ {l l' : List α} {r r' : List β},All2 Q l r → All2 Q l' r' → All2 Q (l ++ l') (r ++ r')
  | [],_,[],_,_,h => h
  | _ :: _,_,_ :: _,_,h,h' => ⟨h.1,h.2.append h'⟩
  | [],_,_ :: _,_,h,_ => h.elim
  | _ :: _,_,[],_,h,_ => h.elim
theorem All2.map {α β γ : Type} {Q : γ → β → Prop} {f : α → γ} : ∀ {l : List α} {r : List β},All2 (fun a b => Q (f a) b) l r → All2 Q (l.map f) r
  | [],[],_ => trivial
  | _ :: _,_ :: _,h => ⟨h.1,h.2.map⟩
  | [],_ :: _,h => h.elim
  | _ :: _,[],h => h.elim
def Cmpd (P : Sym → Nat) (E : Nm → Option Mod) (c : CF) (F : PF) : Prop :=
  ∃ nm md f lk,MOk 601 md ∧ f ∈ md.funs ∧ c = cfOf nm (fndE nm md (imsE E md)) 700 f lk ∧ F = ⟨f.params.map fun x => x.name,f.body,fun n => P (symV nm md (imsE E md) n)⟩
def pfsM (P : Sym → Nat) (E : Nm → Option Mod) (m : Md) : List PF := match formOf m.now with
  | none => []
  | some md => md.funs.map fun f => ⟨f.params.map fun x => x.name,f.body,fun n => P (symV m.name md (imsE E md) n)⟩
theorem compK_cmpd {P : Sym → Nat} {E : Nm → Option Mod} {nm : Nm} {md : Mod} (hok : MOk 601 md) : ∀ (l : List Fun) (lk : List Us),(∀ f ∈ l,f ∈ md.funs) → All2 (Cmpd P E) (compK nm (fndE nm md (imsE E md)) 700 l lk).1 (l.map fun f => ⟨f.params.map fun x => x.name,f.body,fun n => P (symV nm md (imsE E md) n)⟩)
  | [],_,_ => trivial
  | f :: r,lk,h => ⟨⟨nm,md,f,lk,hok,h f (by simp),rfl,rfl⟩,compK_cmpd hok r _ fun x hx => h x (by simp [hx])⟩
def GoodM (E : Nm → Option Mod) (m : Md) : Prop := ∃ md,formOf m.now = some md ∧ (chkE E md).code = 0 ∧ funsOf m = (objE m.name E md).1
theorem good_cmpd {P : Sym → Nat} {E : Nm → Option Mod} : ∀ (L : List Md),(∀ m ∈ L,GoodM E m ∧ m.now.length ≤ 600) → All2 (Cmpd P E) (L.map funsOf).flatten (L.map (pfsM P E)).flatten
  | [],_ => trivial
  | m :: r,h => by
    obtain ⟨⟨md,h1,h2,h3⟩,hl⟩ := h m (by simp)
    rw [List.map_cons,List.map_cons,List.flatten_cons,List.flatten_cons]
    refine All2.append ?_ (good_cmpd r fun x hx => h x (by simp [hx]))
    rw [h3]
    unfold pfsM objE
    rw [h1]
    exact compK_cmpd (formOf_ok hl h1) md.funs _ fun f hf => hf
theorem Cmpd.linked {pl : Sym → Option Nat} {E : Nm → Option Mod} {c : CF} {F : PF} (h : Cmpd (plN pl) E c F) : (fnOf (bndF pl c)).params = F.params.length ∧ (fnOf (bndF pl c)).code = cg F.cal 701 F.params 0 F.body ++ [(6,0)] ∧ deep 701 F.body ∧ mx 701 F.params.length F.body ≤ (fnOf (bndF pl c)).slots ∧
    (fnOf (bndF pl c)).params ≤ (fnOf (bndF pl c)).slots ∧ (fnOf (bndF pl c)).slots + sz 701 F.body + 1 ≤ 2000 := by
  obtain ⟨nm,md,f,lk,hok,hf,rfl,rfl⟩ := h
  have hfo := hok.fs f hf
  have ht := hok.trees f hf
  have hs := codeOf_slots (fndE nm md (imsE E md)) 700 f lk ht.1 ht.2
  have hp := hfo.pl
  have hz := hfo.body.siz 701
  have hz2 := hfo.body.siz (700 + 1)
  refine ⟨?_,?_,ht.1.deep _ _,?_,?_,?_⟩
  · show (f.params.map fun x => x.typ).length = (f.params.map fun x => x.name).length
    rw [List.length_map,List.length_map]
  · exact codeOf_linked (fndE nm md (imsE E md)) (plN pl) 700 f lk
  · show mx 701 (f.params.map fun x => x.name).length f.body ≤ (codeOf (fndE nm md (imsE E md)) 700 f lk).slots
    rw [List.length_map]; exact hs.1
  · show (f.params.map fun x => x.typ).length ≤ (codeOf (fndE nm md (imsE E md)) 700 f lk).slots
    rw [List.length_map]; exact hs.2.1
  · show (codeOf (fndE nm md (imsE E md)) 700 f lk).slots + sz 701 f.body + 1 ≤ 2000
    have := hs.2.2
    omega
theorem link_linked {E : Nm → Option Mod} {L : List Md} (h : ∀ m ∈ L,GoodM E m ∧ m.now.length ≤ 600) : Linked ((linkP (L.map funsOf)).map fnOf) (L.map (pfsM (plN (plc (L.map funsOf).flatten)) E)).flatten 701 2000 := by
  intro k F hF
  obtain ⟨c,hc,hq⟩ := (good_cmpd L h).at hF
  refine ⟨fnOf (bndF (plc (L.map funsOf).flatten) c),?_,hq.linked⟩
  unfold linkP
  rw [List.map_map,List.getElem?_map,hc]
  rfl
theorem link_imOk {E : Nm → Option Mod} {L : List Md} (h : ∀ m ∈ L,GoodM E m ∧ m.now.length ≤ 600) (hn : (L.map funsOf).flatten.length ≤ 100000) : ImOk (linkP (L.map funsOf)) := by
  refine ⟨by unfold linkP; rw [List.length_map]; exact hn,fun f hf => ?_⟩
  unfold linkP at hf
  obtain ⟨c,hc,rfl⟩ := List.mem_map.1 hf
  obtain ⟨k,hk,hkc⟩ := List.getElem_of_mem hc
  have ha := good_cmpd (P := plN (plc (L.map funsOf).flatten)) L h
  have hk2 : k < (L.map (pfsM (plN (plc (L.map funsOf).flatten)) E)).flatten.length := by rw [← ha.len]; exact hk
  obtain ⟨c',hc',hq⟩ := ha.at (List.getElem?_eq_getElem hk2)
  rw [List.getElem?_eq_getElem hk,Option.some.injEq,hkc] at hc'
  subst hc'
  obtain ⟨q1,q2,q3,q4,q5,q6⟩ := hq.linked
  have hcl : (bndF (plc (L.map funsOf).flatten) c).code = _ := q2
  obtain ⟨nm,md,f,lk,hok,hfm,rfl,_⟩ := hq
  have hg := gen_grew (fndE nm md (imsE E md)) (700 + 1) f.body (enters f.params (begun lk))
  have he := enters_len f.params (begun lk) (by simp [begun])
  have hz := (hok.fs f hfm).body.siz (700 + 1)
  refine ⟨by rw [hcl]; simp,?_,?_,q5⟩
  · show ((codeOf (fndE nm md (imsE E md)) 700 f lk).code.map _).length ≤ 100000
    rw [List.length_map]
    show ((gen (fndE nm md (imsE E md)) (700 + 1) f.body (enters f.params (begun lk))).code ++ [(6,0)]).length ≤ _
    have h1 := hg.code.2
    rw [he.2.2.1,show (begun lk).code.length = 0 from rfl] at h1
    rw [List.length_append]
    simp only [List.length_cons,List.length_nil]
    omega
  · have : (fnOf (bndF (plc (L.map funsOf).flatten) (cfOf nm (fndE nm md (imsE E md)) 700 f lk))).slots = (bndF (plc (L.map funsOf).flatten) (cfOf nm (fndE nm md (imsE E md)) 700 f lk)).slots := rfl
    omega
theorem runs_of {E : Nm → Option Mod} {L : List Md} (h : ∀ m ∈ L,GoodM E m ∧ m.now.length ≤ 600) {k : Nat} {F : PF} (hF : (L.map (pfsM (plN (plc (L.map funsOf).flatten)) E)).flatten[k]? = some F) (args : List Int) (ha : args.length = F.params.length) (n fuel : Nat) (R : Int × Nat)
    (hR : runV (L.map (pfsM (plN (plc (L.map funsOf).flatten)) E)).flatten n k args fuel = R) (h9 : R.2 ≠ 99) : Runs ((linkP (L.map funsOf)).map fnOf) k args fuel R := by
  obtain ⟨s1,t,n',h1,h2,h3,h4,h5⟩ := run_plain (link_linked h) (by omega) n k F hF args ha fuel (by rw [hR]; exact h9)
  exact ⟨s1,t,n',h1,h2,h3,h4,h5.trans hR⟩
end Go.Proofs.YtpmmjkiclngpmaaGreatDoor
namespace Go.Proofs.YtpmmjkiclngpmaaGreatDoor
open Go.RowKit
def Two (t : Nat) : Prop := t = 1 ∨ t = 2
theorem tyText_head {t t' : Nat} (h : Two t) (h' : Two t') {a b : List UInt8} (e : tyText t ++ a = tyText t' ++ b) : t = t' ∧ a = b := by
  rcases h with rfl | rfl <;> rcases h' with rfl | rfl <;> simp [tyText] at e ⊢
  · exact e
  · exact e
theorem sigTail {r r' : Nat} (hr : Two r) (hr' : Two r') : ∀ {ps ps' : List Nat},(∀ t ∈ ps,Two t) → (∀ t ∈ ps',Two t) →
    Lib.joinTail [44] (ps.map tyText) ++ [58] ++ tyText r = Lib.joinTail [44] (ps'.map tyText) ++ [58] ++ tyText r' → ps = ps' ∧ r = r'
  | [],[],_,_,e => by
    have e' : tyText r ++ [] = tyText r' ++ [] := by simpa [Lib.joinTail] using e
    exact ⟨rfl,(tyText_head hr hr' e').1⟩
  | [],y :: l,_,_,e => by simp [Lib.joinTail] at e
  | x :: l,[],_,_,e => by simp [Lib.joinTail] at e
  | x :: l,y :: l',h,h',e => by
    have e' : tyText x ++ (Lib.joinTail [44] (l.map tyText) ++ [58] ++ tyText r) = tyText y ++ (Lib.joinTail [44] (l'.map tyText) ++ [58] ++ tyText r') := by
      simpa [Lib.joinTail] using e
    obtain ⟨h1,h2⟩ := tyText_head (h x (by simp)) (h' y (by simp)) e'
    obtain ⟨h3,h4⟩ := sigTail hr hr' (fun t ht => h t (by simp [ht])) (fun t ht => h' t (by simp [ht])) h2
    exact ⟨by rw [h1,h3],h4⟩
theorem sig_inj {r r' : Nat} (hr : Two r) (hr' : Two r') {ps ps' : List Nat} (h : ∀ t ∈ ps,Two t) (h' : ∀ t ∈ ps',Two t) (e : sigText ps r = sigText ps' r') : ps = ps' ∧ r = r' := by
  unfold sigText at e
  match ps,ps' with
  | [],[] =>
    have e' : tyText r ++ [] = tyText r' ++ [] := by simpa [Lib.join_nil] using e
    exact ⟨rfl,(tyText_head hr hr' e').1⟩
  | [],y :: l =>
    rcases h' y (by simp) with rfl | rfl <;> simp [Lib.join_nil,Lib.join_cons,tyText] at e
  | x :: l,[] =>
    rcases h x (by simp) with rfl | rfl <;> simp [Lib.join_nil,Lib.join_cons,tyText] at e
  | x :: l,y :: l' =>
    have e' : tyText x ++ (Lib.joinTail [44] (l.map tyText) ++ [58] ++ tyText r) = tyText y ++ (Lib.joinTail [44] (l'.map tyText) ++ [58] ++ tyText r') := by
      simpa [Lib.join_cons] using e
    obtain ⟨h1,h2⟩ := tyText_head (h x (by simp)) (h' y (by simp)) e'
    obtain ⟨h3,h4⟩ := sigTail hr hr' (fun t ht => h t (by simp [ht])) (fun t ht => h' t (by simp [ht])) h2
    exact ⟨by rw [h1,h3],h4⟩
theorem sig_ne (ps : List Nat) (r : Nat) : sigText ps r ≠ [] := by unfold sigText; simp
theorem FOk.sig {n n' : Nat} {f g : Fun} (hf : FOk n f) (hg : FOk n' g) (e : sigText (f.params.map fun p => p.typ) f.result = sigText (g.params.map fun p => p.typ) g.result) : sigOf f = sigOf g := by
  obtain ⟨a,b⟩ := sig_inj hf.rt hg.rt (fun t ht => by obtain ⟨x,hx,rfl⟩ := List.mem_map.1 ht; exact hf.pt x hx) (fun t ht => by obtain ⟨x,hx,rfl⟩ := List.mem_map.1 ht; exact hg.pt x hx) e
  unfold sigOf; rw [a,b]
theorem seen_exp {x y : Option Mod} (hx : ∀ md,x = some md → MOk 601 md) (hy : ∀ md,y = some md → MOk 601 md) {n : Nm} (hn : n ≠ []) (e : seenT x n = seenT y n) :
    (expG x n = none ∧ expG y n = none) ∨ ∃ f g,expG x n = some f ∧ expG y n = some g ∧ sigOf f = sigOf g := by
  unfold seenT at e
  rw [if_neg (fun h => hn h.2),if_neg (fun h => hn h.2)] at e
  have mem : ∀ {z : Option Mod} {f : Fun},(∀ md,z = some md → MOk 601 md) → expG z n = some f → FOk 601 f := fun {z f} hz h => by
    unfold expG at h
    cases z with
    | none => cases h
    | some md => exact (hz md rfl).fs f (firstG_mem h).1
  rcases h1 : expG x n with _ | f <;> rcases h2 : expG y n with _ | g <;> rw [h1,h2] at e <;> simp only at e
  · exact Or.inl ⟨rfl,rfl⟩
  · exact absurd e.symm (sig_ne _ _)
  · exact absurd e (sig_ne _ _)
  · exact Or.inr ⟨f,g,rfl,rfl,(mem hx h1).sig (mem hy h2) e⟩
theorem seen_nil (x y : Option Mod) (hx : ∀ md,x = some md → MOk 601 md) (hy : ∀ md,y = some md → MOk 601 md) (e : seenT x [] = seenT y []) : x.isSome = y.isSome := by
  cases x with
  | none => cases y with
    | none => rfl
    | some b => simp [seenT,expG] at e
  | some a => cases y with
    | none => simp [seenT,expG] at e
    | some b => rfl
theorem imports_agree {E E0 : Nm → Option Mod} (hE : EOk E) (hE0 : EOk E0) {n : Nm} (hn : n ≠ []) : ∀ (l : List Imp),(∀ u ∈ useI n (l.zip (l.map fun i => E0 i.name)),seenT (E u.m) u.n = seenT (E0 u.m) u.n) →
    useI n (l.zip (l.map fun i => E i.name)) = useI n (l.zip (l.map fun i => E0 i.name)) ∧ whoI n (l.zip (l.map fun i => E i.name)) = whoI n (l.zip (l.map fun i => E0 i.name)) ∧
      (lookI n (l.map fun i => E i.name)).map sigOf = (lookI n (l.map fun i => E0 i.name)).map sigOf
  | [],_ => ⟨rfl,rfl,rfl⟩
  | i :: r,h => by
    rw [List.map_cons,List.map_cons,List.zip_cons_cons,List.zip_cons_cons,lookI_exp,lookI_exp]
    have hs : seenT (E i.name) n = seenT (E0 i.name) n := h ⟨i.name,n,seenT (E0 i.name) n⟩ (by rw [List.map_cons,List.zip_cons_cons]; unfold useI; simp)
    unfold useI whoI
    simp only
    rcases seen_exp (fun md h => hE _ md h) (fun md h => hE0 _ md h) hn hs with ⟨h1,h2⟩ | ⟨f,g,h1,h2,h3⟩
    · rw [h1,h2]
      simp only
      obtain ⟨a,b,c⟩ := imports_agree hE hE0 hn r (fun u hu => h u (by rw [List.map_cons,List.zip_cons_cons]; unfold useI; rw [h2]; simp [hu]))
      exact ⟨by rw [a,hs],b,c⟩
    · rw [h1,h2]
      refine ⟨by simp only [hs],by simp only,?_⟩
      simp only [Option.map_some,h3]
theorem name_agree {E E0 : Nm → Option Mod} (hE : EOk E) (hE0 : EOk E0) (nm : Nm) (md : Mod) {n : Nm} (hn : n ≠ []) (h : ∀ u ∈ useV md (imsE E0 md) n,seenT (E u.m) u.n = seenT (E0 u.m) u.n) :
    useV md (imsE E md) n = useV md (imsE E0 md) n ∧ symV nm md (imsE E md) n = symV nm md (imsE E0 md) n ∧ lookV md (imsE E md) n = lookV md (imsE E0 md) n := by
  unfold useV symV lookV imsE at *
  rcases hf : firstG false n md.funs with _ | f
  · rw [hf] at h
    simp only at h ⊢
    obtain ⟨a,b,c⟩ := imports_agree hE hE0 hn md.imports h
    exact ⟨a,by rw [b],c⟩
  · exact ⟨rfl,rfl,rfl⟩
theorem useV_lim {md : Mod} (hok : MOk 601 md) (E : Nm → Option Mod) (n : Nm) : (useV md (imsE E md) n).length ≤ 1000 := by
  unfold useV
  split
  · simp
  · have h := useI_len n (md.imports.zip (imsE E md))
    have := hok.il
    rw [List.length_zip] at h
    omega
theorem calls_ne {E : Nm → Option Mod} {md : Mod} (hE : EOk E) (hok : MOk 601 md) (h0 : (chkE E md).code = 0) {n : Nm} (hn : CallsM 700 md.funs n) : n ≠ [] := by
  obtain ⟨h1,_⟩ := modK_ok hok.trees (by simp [ptsE]) h0
  obtain ⟨f,hf,hc⟩ := hn
  have hk : (lookV md (imsE E md) n).isSome = true := CallsIn.shp (h1 f hf) hc
  rcases hg : firstG false n md.funs with _ | g
  · have hk' : ((lookI n (imsE E md)).map sigOf).isSome = true := by unfold lookV at hk; rw [hg] at hk; exact hk
    rw [Option.isSome_map] at hk'
    obtain ⟨g,hg⟩ := Option.isSome_iff_exists.1 hk'
    obtain ⟨a,md',b,c⟩ := lookI_mem hg
    unfold imsE at b
    obtain ⟨i,_,hi⟩ := List.mem_map.1 b
    rw [← a]; exact ((hE _ _ hi).fs g c).ne
  · obtain ⟨a,b⟩ := firstG_mem hg
    rw [← b]; exact (hok.fs g a).ne
theorem compactL_has {x : Nm × Nm} (l : List (Nm × Nm)) : x ∈ l → x ∈ compactL l := by
  have key : ∀ (n : Nat) (l : List (Nm × Nm)),l.length = n → x ∈ l → x ∈ compactL l := by
    intro n
    induction n with
    | zero => intro l hl h; rw [List.eq_nil_of_length_eq_zero hl] at h; cases h
    | succ n ih =>
      intro l hl h
      obtain ⟨a,y,rfl⟩ : ∃ a y,l = a ++ [y] := ⟨l.dropLast,l.getLast (by intro e; rw [e] at hl; simp at hl),(List.dropLast_concat_getLast _).symm⟩
      rw [compactL_snoc]
      rcases List.mem_append.1 h with h | h
      · have := ih a (by simpa using hl) h
        unfold cstep
        split
        · exact this
        · exact List.mem_append.2 (Or.inl this)
      · have e : x = y := by simpa using h
        subst e
        exact List.mem_of_getLast? (cstep_last _ _)
  exact key _ l rfl
theorem usesOf_has {sf : Nm × Nm → List UInt8} {l : List (Nm × Nm)} {x : Nm × Nm} (h : x ∈ l) : entU sf x ∈ usesOf sf l := by
  unfold usesOf
  refine List.mem_map.2 ⟨x,compactL_has _ ?_,rfl⟩
  unfold sortL
  exact (List.mergeSort_perm _ _).mem_iff.2 h
theorem comp_agree {E E0 : Nm → Option Mod} (hE : EOk E) (hE0 : EOk E0) (nm : Nm) {md : Mod} (hok : MOk 601 md) (h0 : (chkE E0 md).code = 0) (h : ∀ u ∈ usesE nm E0 md,seenT (E u.m) u.n = u.s) :
    chkE E md = chkE E0 md ∧ objE nm E md = objE nm E0 md ∧ usesE nm E md = usesE nm E0 md := by
  have hkey : ∀ x ∈ (objE nm E0 md).2.map keyU ++ md.imports.map fun i => (i.name,[]),sfE E x = sfE E0 x := fun x hx => h (entU (sfE E0) x) (usesOf_has hx)
  have hcall : ∀ n,CallsM 700 md.funs n → useV md (imsE E md) n = useV md (imsE E0 md) n ∧ symV nm md (imsE E md) n = symV nm md (imsE E0 md) n ∧ lookV md (imsE E md) n = lookV md (imsE E0 md) n := fun n hn => by
    refine name_agree hE hE0 nm md (calls_ne hE0 hok h0 hn) fun u hu => ?_
    have hm : u ∈ (objE nm E0 md).2 := by
      unfold objE
      rw [compK_mem hok.trees]
      refine Or.inr ⟨n,hn,?_⟩
      show u ∈ (useV md (imsE E0 md) n).take 1000
      rw [List.take_of_length_le (useV_lim hok E0 n)]
      exact hu
    exact hkey (keyU u) (List.mem_append.2 (Or.inl (List.mem_map.2 ⟨u,hm,rfl⟩)))
  have himp : (ptsE E md).map Option.isSome = (ptsE E0 md).map Option.isSome := by
    unfold ptsE
    rw [List.map_map,List.map_map]
    refine List.map_congr_left fun i hi => ?_
    show ((E i.name).map _).isSome = ((E0 i.name).map _).isSome
    rw [Option.isSome_map,Option.isSome_map]
    exact seen_nil _ _ (fun md h => hE _ md h) (fun md h => hE0 _ md h) (hkey (i.name,[]) (List.mem_append.2 (Or.inr (List.mem_map.2 ⟨i,hi,rfl⟩))))
  have hchk : chkE E md = chkE E0 md := by
    unfold chkE
    refine modK_congr (fun n hn => ?_) himp
    obtain ⟨a,b,c⟩ := hcall n hn
    exact ⟨c,by show (useV md (imsE E md) n).take 1000 = (useV md (imsE E0 md) n).take 1000; rw [a]⟩
  have hobj : objE nm E md = objE nm E0 md := by
    unfold objE
    rw [hchk]
    refine congrFun (compK_congr nm fun n hn => ?_) _
    obtain ⟨a,b,c⟩ := hcall n hn
    exact ⟨b,by show (useV md (imsE E md) n).take 1000 = (useV md (imsE E0 md) n).take 1000; rw [a]⟩
  refine ⟨hchk,hobj,?_⟩
  unfold usesE
  rw [hobj]
  unfold usesOf
  refine List.map_congr_left fun x hx => ?_
  have hx' := compactL_mem _ hx
  unfold sortL at hx'
  have := hkey x ((List.mergeSort_perm _ _).mem_iff.1 hx')
  unfold entU
  rw [this]
theorem curr_comp {E : Nm → Option Mod} (hE : EOk E) {m : Md} (hM : ∀ o,m.obj = some o → Made m.name o) (hc : curr E m = true) : (compM E m).1.1 = 0 ∧ (compM E m).2 = m.obj := by
  unfold curr at hc
  rcases ho : m.obj with _ | o
  · rw [ho] at hc; cases hc
  · rw [ho] at hc
    simp only [Bool.and_eq_true,beq_iff_eq] at hc
    obtain ⟨h1,h2,E0,md,hE0,hf,h0,hfs,hus⟩ := hM o ho
    have hok := formOf_ok h2 hf
    have hu : ∀ u ∈ usesE m.name E0 md,seenT (E u.m) u.n = u.s := fun u hu => by
      rw [← hus] at hu
      have := List.all_eq_true.1 hc.2 u hu
      simpa [holdsU] using this
    obtain ⟨a,b,c⟩ := comp_agree hE hE0 m.name hok h0 hu
    unfold compM
    rw [← hc.1,hf]
    simp only
    rw [a,b,c,h0,if_pos rfl]
    exact ⟨rfl,by rw [← hfs,← hus]⟩
def madeM (E : Nm → Option Mod) (m : Md) : Md := { m with obj := (compM E m).2 }
def toldM (E : Nm → Option Mod) (m : Md) : Option Dg := if (compM E m).1.1 = 0 then none else some ⟨m.name,(compM E m).1.1,(compM E m).1.2⟩
theorem buildM_new {E : Nm → Option Mod} (hE : EOk E) {m : Md} (hM : ∀ o,m.obj = some o → Made m.name o) : buildM E m = madeM E m ∧ diagM E m = toldM E m := by
  unfold buildM diagM madeM toldM
  rcases hc : curr E m with _ | _
  · exact ⟨rfl,rfl⟩
  · obtain ⟨a,b⟩ := curr_comp hE hM hc
    rw [b,a]
    simp
theorem compM_text (E : Nm → Option Mod) {m m' : Md} (h1 : m.name = m'.name) (h2 : m.now = m'.now) : compM E m = compM E m' := by
  unfold compM; rw [h1,h2]
theorem diagsL_new {s : Sto} (hs : ∀ m ∈ s.L,m.name.length ≤ 8 ∧ m.now.length ≤ 600) (hM : StM s) : diagsL (formE s.L) s.L = s.L.filterMap (toldM (formE s.L)) ∧ s.L.map (buildM (formE s.L)) = s.L.map (madeM (formE s.L)) := by
  have hE := EOk_of hs
  refine ⟨?_,List.map_congr_left fun m hm => (buildM_new hE (hM m hm)).1⟩
  unfold diagsL
  generalize formE s.L = E at *
  have key : ∀ l : List Md,(∀ m ∈ l,∀ o,m.obj = some o → Made m.name o) → l.filterMap (diagM E) = l.filterMap (toldM E) := by
    intro l
    induction l with
    | nil => intro _; rfl
    | cons x r ih =>
      intro h
      rw [List.filterMap_cons,List.filterMap_cons,(buildM_new hE (h x (by simp))).2,ih fun m hm => h m (by simp [hm])]
  exact key _ hM
end Go.Proofs.YtpmmjkiclngpmaaGreatDoor
namespace Go.Proofs.YtpmmjkiclngpmaaGreatDoor
open Go.RowKit
theorem slotR_in (name : Nm) : ∀ l : List Nm,l ≠ [] → 0 ≤ slotR name l ∧ slotR name l < l.length
  | [],h => absurd rfl h
  | x :: r,_ => by
    unfold slotR
    rw [List.length_cons]
    split
    · next h =>
      have := slotR_in name r (fun e => by rw [e] at h; simp at h)
      omega
    · omega
section
variable {g : Ex → KS → Nat × KS} {Q : List Nm → Ex → Prop} {sc : List (Nm × Nat)}
end
end Go.Proofs.YtpmmjkiclngpmaaGreatDoor
namespace Go.Proofs.YtpmmjkiclngpmaaGreatDoor
open Go.RowKit
def pfOf (P : Sym → Nat) (E : Nm → Option Mod) (nm : Nm) (md : Mod) (f : Fun) : PF := ⟨f.params.map fun x => x.name,f.body,fun n => P (symV nm md (imsE E md) n)⟩
def FromM (P : Sym → Nat) (E : Nm → Option Mod) (L : List Md) (c : CF) (F : PF) : Prop :=
  ∃ m ∈ L,∃ md f lk,formOf m.now = some md ∧ (chkE E md).code = 0 ∧ f ∈ md.funs ∧ c = cfOf m.name (fndE m.name md (imsE E md)) 700 f lk ∧ F = pfOf P E m.name md f
theorem compK_from {P : Sym → Nat} {E : Nm → Option Mod} {L : List Md} {m : Md} (hm : m ∈ L) {md : Mod} (hf : formOf m.now = some md) (h0 : (chkE E md).code = 0) : ∀ (l : List Fun) (lk : List Us),(∀ f ∈ l,f ∈ md.funs) → All2 (FromM P E L) (compK m.name (fndE m.name md (imsE E md)) 700 l lk).1 (l.map (pfOf P E m.name md))
  | [],_,_ => trivial
  | f :: r,lk,h => ⟨⟨m,hm,md,f,lk,hf,h0,h f (by simp),rfl,rfl⟩,compK_from hm hf h0 r _ fun x hx => h x (by simp [hx])⟩
theorem good_from {P : Sym → Nat} {E : Nm → Option Mod} {L0 : List Md} : ∀ (L : List Md),(∀ m ∈ L,m ∈ L0 ∧ GoodM E m) → All2 (FromM P E L0) (L.map funsOf).flatten (L.map (pfsM P E)).flatten
  | [],_ => trivial
  | m :: r,h => by
    obtain ⟨hm,md,h1,h2,h3⟩ := h m (by simp)
    rw [List.map_cons,List.map_cons,List.flatten_cons,List.flatten_cons]
    refine All2.append ?_ (good_from r fun x hx => h x (by simp [hx]))
    rw [h3]
    unfold pfsM objE
    rw [h1]
    exact compK_from hm h1 h2 md.funs _ fun f hf => hf
section
variable {L : List Md} {E : Nm → Option Mod}
end
theorem built_good {s : Sto} (hs : ∀ m ∈ s.L,m.name.length ≤ 8 ∧ m.now.length ≤ 600) (hM : StM s) (hd : (buildS s).1 = []) : ∀ m ∈ (buildS s).2.L,GoodM (formE (buildS s).2.L) m := by
  have hE := EOk_of hs
  have hf : formE (buildS s).2.L = formE s.L := formE_same fun z => getM_map (buildM_name _) _ _
  rw [hf]
  intro m hm
  obtain ⟨m0,h0,rfl⟩ := List.mem_map.1 hm
  have hn := buildM_new hE (hM m0 h0)
  rw [hn.1]
  have hdd : diagsL (formE s.L) s.L = [] := hd
  unfold diagsL at hdd
  rw [List.filterMap_eq_nil_iff] at hdd
  have h1 := hdd m0 h0
  rw [hn.2] at h1
  unfold toldM at h1
  split at h1
  · next hc =>
    unfold GoodM madeM
    unfold compM at hc ⊢
    rcases hform : formOf m0.now with _ | md
    · rw [hform] at hc; simp at hc
    · rw [hform] at hc
      simp only at hc
      refine ⟨md,rfl,hc,?_⟩
      simp only [funsOf]
      rw [if_pos hc]
      rfl
  · cases h1
theorem built_sizes {s : Sto} (hs : ∀ m ∈ s.L,m.name.length ≤ 8 ∧ m.now.length ≤ 600) : ∀ m ∈ (buildS s).2.L,m.name.length ≤ 8 ∧ m.now.length ≤ 600 := fun m hm => by
  obtain ⟨m0,h0,rfl⟩ := List.mem_map.1 hm
  rw [(buildM_name _ m0).1,(buildM_name _ m0).2]
  exact hs m0 h0
theorem funs_total : ∀ (L : List Md),(∀ m ∈ L,(funsOf m).length ≤ 601) → (L.map funsOf).flatten.length ≤ 601 * L.length
  | [],_ => by simp
  | m :: r,h => by
    have h1 := h m (by simp)
    have h2 := funs_total r fun x hx => h x (by simp [hx])
    rw [List.map_cons,List.flatten_cons,List.length_append,List.length_cons]
    omega
theorem built_imOk {s : Sto} (hs : ∀ m ∈ s.L,m.name.length ≤ 8 ∧ m.now.length ≤ 600) (hn : s.L.length ≤ 100) (hM : StM s) : ∀ fs,(buildS s).2.img = some fs → ImOk fs := by
  intro fs hfs
  have hi : (buildS s).2.img = if diagsL (formE s.L) s.L = [] then some (linkP ((buildS s).2.L.map funsOf)) else none := rfl
  rw [hi] at hfs
  split at hfs
  · next hd =>
    simp only [Option.some.injEq] at hfs
    subst hfs
    have hg := built_good hs hM hd
    refine link_imOk (E := formE (buildS s).2.L) (fun m hm => ⟨hg m hm,(built_sizes hs m hm).2⟩) ?_
    have := funs_total (buildS s).2.L fun m hm => by
      obtain ⟨md,h1,h2,h3⟩ := hg m hm
      rw [h3]
      unfold objE
      rw [compK_all.1]
      exact (formOf_ok (built_sizes hs m hm).2 h1).fl
    have hl : (buildS s).2.L.length = s.L.length := by show (s.L.map _).length = _; simp
    rw [hl] at this
    omega
  · cases hfs
end Go.Proofs.YtpmmjkiclngpmaaGreatDoor
namespace Go.Proofs.YtpmmjkiclngpmaaGreatDoor
open Go.RowKit
end Go.Proofs.YtpmmjkiclngpmaaGreatDoor
namespace Go.Proofs.YtpmmjkiclngpmaaGreatDoor
open Go.RowKit
theorem wrap_sm {v : Int} (h0 : -1000000 ≤ v) (h1 : v ≤ 1000000) : wrap64 v = v := by unfold wrap64; omega
theorem ev_num (Fs : List PF) (n d : Nat) (cal : Nm → Nat) (sc : List Nm) (env : List Int) (f p : Nat) (nm : Nm) (v : Int) (l : List Ex) : ev Fs (n + 1) d cal sc env f ⟨0,p,nm,v,l⟩ = (v,f,0) := by simp [ev]
theorem ev_bin {Fs : List PF} {n d : Nat} {cal : Nm → Nat} {sc : List Nm} {env : List Int} {f p k : Nat} {nm : Nm} {v : Int} {a b : Ex} {x y : Int} {f1 f2 : Nat} (h7 : 7 ≤ k) (h13 : k < 13) (ha : ev Fs n d cal sc env f a = (x,f1,0)) (hb : ev Fs n d cal sc env f1 b = (y,f2,0)) :
    ev Fs (n + 1) d cal sc env f ⟨k,p,nm,v,[a,b]⟩ = if k = 12 ∧ y = 0 then (0,f2,12) else (bin2 k x y,f2,0) := by
  have e0 : ¬ (k = 0 ∨ k = 1) := by omega
  have e2 : k ≠ 2 := by omega
  have e3 : k ≠ 3 := by omega
  have e4 : k ≠ 4 := by omega
  have e5 : k ≠ 5 := by omega
  have e6 : k ≠ 6 := by omega
  simp [ev,e0,e2,e3,e4,e5,e6,evs,ha,hb,opv,h7,h13]
theorem ev_call {Fs : List PF} {n d : Nat} {cal : Nm → Nat} {sc : List Nm} {env : List Int} {f p : Nat} {nm : Nm} {v : Int} {a : Ex} {x : Int} {f1 : Nat} {F : PF} (ha : ev Fs n d cal sc env f a = (x,f1,0)) (hF : Fs[cal nm]? = some F) (hp : F.params.length = 1) :
    ev Fs (n + 1) d cal sc env f ⟨3,p,nm,v,[a]⟩ = if f1 = 0 then (0,0,11) else if d = 0 then (0,f1,13) else ev Fs n (d - 1) F.cal F.params [x] (f1 - 1) F.body := by
  simp [ev,evs,ha,hF,hp]
end Go.Proofs.YtpmmjkiclngpmaaGreatDoor
