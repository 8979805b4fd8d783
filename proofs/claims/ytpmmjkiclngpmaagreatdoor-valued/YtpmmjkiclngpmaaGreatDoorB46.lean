/- YtpmmjkiclngpmaaGreatDoorB46 -/
import Derived.Test.YtpmmjkiclngpmaaGreatDoorB08
import Derived.Test.YtpmmjkiclngpmaaGreatDoorB43
import Derived.Test.YtpmmjkiclngpmaaGreatDoorB25
import Derived.Test.YtpmmjkiclngpmaaGreatDoorB11
import Derived.Test.YtpmmjkiclngpmaaGreatDoorB22
set_option maxRecDepth 100000
set_option linter.unusedSimpArgs false
set_option linter.unusedVariables false
set_option maxHeartbeats 12800000
namespace Go.Proofs.YtpmmjkiclngpmaaGreatDoor
open Go.RowKit
def runV (Fs : List PF) (n k : Nat) (args : List Int) (fuel : Nat) : Int × Nat :=
  if fuel = 0 then (0,11)
  else match Fs[k]? with
    | none => (0,99)
    | some F => ((if (ev Fs n 99 F.cal F.params args (fuel - 1) F.body).2.2 = 0 then (ev Fs n 99 F.cal F.params args (fuel - 1) F.body).1 else 0),(ev Fs n 99 F.cal F.params args (fuel - 1) F.body).2.2)
theorem run_plain {fs : List Fn} {Fs : List PF} {N K : Nat} (hL : Linked fs Fs N K) (hK : 100 * K ≤ 1000000) (n k : Nat) (F : PF) (hF : Fs[k]? = some F) (args : List Int) (ha : args.length = F.params.length) (fuel : Nat) (h9 : (runV Fs n k args fuel).2 ≠ 99) :
    ∃ s1 t n',MS.call fs k ⟨args.reverse,[],fuel,0⟩ = some s1 ∧ StepsN fs n' s1 t ∧ (t.wrong ≠ 0 ∨ t.frames = []) ∧ (t.wrong = 0 → ∃ y q,t.stack = y :: q ∧ q.length ≤ 1000000) ∧ outOf t = runV Fs n k args fuel := by
  obtain ⟨fn,g1,g2,g3,g4,g5,g6,g7⟩ := hL k F hF
  by_cases hf : fuel = 0
  · refine ⟨⟨args.reverse,[],fuel,11⟩,⟨args.reverse,[],fuel,11⟩,0,by simp [MS.call,hf],rfl,Or.inl (by simp),fun h => by simp at h,?_⟩
    simp [outOf,runV,hf]
  · have hr : runV Fs n k args fuel = ((if (ev Fs n 99 F.cal F.params args (fuel - 1) F.body).2.2 = 0 then (ev Fs n 99 F.cal F.params args (fuel - 1) F.body).1 else 0),(ev Fs n 99 F.cal F.params args (fuel - 1) F.body).2.2) := by simp [runV,hf,hF]
    have B := ev_does hL n N 99 F.cal F.params args F.body k 0 fn.slots [] [] fn g4 g1 (by simp) ha.symm g5 (by omega) rfl 0 (fuel - 1) [] [(6,0)] (by simpa using g3) rfl
    have B' := B [] (args ++ List.replicate (fn.slots - fn.params) 0) (by simp; omega) (by simp) (by simp; omega)
    simp only [List.nil_append,List.append_nil,List.reverse_append,List.reverse_replicate] at B'
    rw [hr] at h9 ⊢
    generalize ev Fs n 99 F.cal F.params args (fuel - 1) F.body = r at B' h9 ⊢
    simp only at h9
    have hcall : MS.call fs k ⟨args.reverse,[],fuel,0⟩ = some ⟨List.replicate (fn.slots - fn.params) 0 ++ args.reverse,[⟨k,0,0⟩],fuel - 1,0⟩ := by
      simp only [MS.call,hf,if_false,g1]
      rw [if_neg (by simp),if_pos (by simp; omega)]
      simp [g2,ha]
    by_cases hw : r.2.2 = 0
    · obtain ⟨sl,b1,b2,n1,b3⟩ := B'.1 hw
      have hret : Steps fs ⟨[r.1].reverse ++ sl.reverse,[⟨k,0 + (cg F.cal N F.params 0 F.body).length,0⟩],r.2.1,0⟩ ⟨[r.1],[],r.2.1,0⟩ := by
        refine Steps.ins (pre := []) (c := cg F.cal N F.params 0 F.body ++ [(6,0)]) (post := []) (p := 0) (i := (cg F.cal N F.params 0 F.body).length) (op := 6) (v := 0) g1 (by simpa using g3) rfl (by simp) (by simp; omega) ?_
        show (if 0 ≤ sl.reverse.length then some (⟨r.1 :: sl.reverse.drop (sl.reverse.length - 0),[],r.2.1,0⟩ : MS) else none) = _
        rw [if_pos (by omega)]
        simp
      obtain ⟨n2,hn2⟩ := hret
      refine ⟨_,⟨[r.1],[],r.2.1,0⟩,n1 + n2,hcall,b3.trans hn2,Or.inr rfl,fun _ => ⟨r.1,[],rfl,by simp⟩,?_⟩
      simp [outOf,hw]
    · obtain ⟨t,⟨n1,b1⟩,b2⟩ := B'.2 hw h9
      refine ⟨_,t,n1,hcall,b1,Or.inl (by rw [b2]; exact hw),fun h => absurd (b2.symm.trans h) hw,?_⟩
      have : ¬ t.wrong = 0 := fun h => hw (b2.symm.trans h)
      simp [outOf,this,b2,hw]
end Go.Proofs.YtpmmjkiclngpmaaGreatDoor
namespace Go.Proofs.YtpmmjkiclngpmaaGreatDoor
open Go.RowKit
theorem Shp.deep {known : List UInt8 → Prop} (m : Nat) : ∀ e,Shp known m e → deep m e := by
  induction m with
  | zero => intro e h; exact h
  | succ m ih => intro e h x hx; exact ih x (h.2.2.2.2.2 x hx)
def Slo (s t : CS) (k : Nat) : Prop := s.slots ≤ t.slots ∧ k ≤ t.slots ∧ t.scope = s.scope
theorem gens_slo {g : Ex → CS → CS} {M : Nat → Ex → Nat} (l : List Ex) (h : ∀ x ∈ l,∀ s : CS,s.scope.length ≤ s.slots → Slo s (g x s) (M s.scope.length x)) (s : CS) (hs : s.scope.length ≤ s.slots) :
    Slo s (gens g l s) (mxL (M s.scope.length) l s.scope.length) := by
  induction l generalizing s with
  | nil => exact ⟨Nat.le_refl _,hs,rfl⟩
  | cons x r ih =>
    have h1 := h x (by simp) s hs
    have h2 := ih (fun y hy => h y (by simp [hy])) (g x s) (by rw [h1.2.2]; exact Nat.le_trans hs h1.1)
    rw [h1.2.2] at h2
    obtain ⟨a1,a2,a3⟩ := h1
    obtain ⟨b1,b2,b3⟩ := h2
    refine ⟨Nat.le_trans a1 b1,?_,by show (gens g r (g x s)).scope = _; rw [b3,a3]⟩
    show max (M s.scope.length x) (mxL (M s.scope.length) r s.scope.length) ≤ (gens g r (g x s)).slots
    omega
theorem gen_slo {known : List UInt8 → Prop} (fnd : Fnd) (m : Nat) : ∀ (e : Ex) (s : CS),Shp known m e → Leafy m e → s.scope.length ≤ s.slots → Slo s (gen fnd m e s) (mx m s.scope.length e) := by
  induction m with
  | zero => intro e s h _ _; exact absurd h (by simp [Shp])
  | succ m ih =>
    intro e s h hl hs
    obtain ⟨q1,q4,q5,q6,q3,hp⟩ := h
    obtain ⟨l0,lp⟩ := hl
    have hall : Slo s (gens (gen fnd m) e.parts s) (mxL (mx m s.scope.length) e.parts s.scope.length) := gens_slo (g := gen fnd m) (M := mx m) e.parts (fun x hx s hs => ih x s (hp x hx) (lp x hx) hs) s hs
    by_cases k6 : e.kind = 6
    · obtain ⟨a,b,hab⟩ := len2 (q6 k6)
      unfold gen mx
      rw [if_pos k6,if_neg (by omega),if_neg (by omega),if_neg (by omega),if_neg (by omega),if_pos k6,hab]
      simp only
      have h1 := ih a s (hp a (by simp [hab])) (lp a (by simp [hab])) hs
      unfold CS.lets
      generalize gen fnd m a s = s1 at *
      obtain ⟨a1,a2,a3⟩ := h1
      have h2 := ih b ((s1.enter e.name).emit 2 s1.scope.length) (hp b (by simp [hab])) (lp b (by simp [hab])) (by simp [CS.enter,CS.emit]; omega)
      have e2 : ((s1.enter e.name).emit 2 s1.scope.length).scope = s.scope ++ [e.name] := by rw [← a3]; rfl
      have e3 : s1.slots ≤ ((s1.enter e.name).emit 2 s1.scope.length).slots := by simp [CS.enter,CS.emit]; omega
      unfold Slo at h2
      rw [e2] at h2
      simp only [List.length_append,List.length_cons,List.length_nil,Nat.zero_add] at h2
      generalize gen fnd m b ((s1.enter e.name).emit 2 s1.scope.length) = s2 at *
      obtain ⟨b1,b2,b3⟩ := h2
      refine ⟨by simp only; omega,by simp only; omega,?_⟩
      show s2.scope.take _ = _
      rw [b3]; simp
    · unfold mx
      rw [if_neg k6]
      unfold gen
      split
      · next hk => rw [l0 (by omega)]; exact ⟨Nat.le_refl _,hs,rfl⟩
      split
      · next hk => rw [l0 (by omega)]; exact ⟨Nat.le_refl _,hs,rfl⟩
      split
      · next hk => rw [List.take_of_length_le (by rw [q4 hk]; omega)]; exact hall
      split
      · next hk =>
        obtain ⟨a,b,c,habc⟩ := len3 (q5 hk)
        rw [habc]
        simp only
        have h1 := ih a s (hp a (by simp [habc])) (lp a (by simp [habc])) hs
        unfold CS.ifs
        generalize gen fnd m a s = s1 at *
        obtain ⟨a1,a2,a3⟩ := h1
        have h2 := ih b (s1.emit 4 0) (hp b (by simp [habc])) (lp b (by simp [habc])) (by show s1.scope.length ≤ s1.slots; rw [a3]; omega)
        rw [show (s1.emit 4 0).scope = s.scope from a3] at h2
        generalize gen fnd m b (s1.emit 4 0) = s3 at *
        obtain ⟨b1,b2,b3⟩ := h2
        have b3' : s3.scope = s.scope := b3.trans a3
        have b1' : s1.slots ≤ s3.slots := b1
        have h3 := ih c ((s3.emit 3 0).land s1.code.length) (hp c (by simp [habc])) (lp c (by simp [habc])) (by show s3.scope.length ≤ s3.slots; rw [b3']; omega)
        rw [show ((s3.emit 3 0).land s1.code.length).scope = s.scope from b3'] at h3
        generalize gen fnd m c ((s3.emit 3 0).land s1.code.length) = s6 at *
        obtain ⟨c1,c2,c3⟩ := h3
        have c1' : s3.slots ≤ s6.slots := c1
        have c3' : s6.scope = s.scope := c3.trans b3'
        refine ⟨by show s.slots ≤ s6.slots; omega,?_,c3'⟩
        show max (mx m s.scope.length a) (max (mx m s.scope.length b) (max (mx m s.scope.length c) s.scope.length)) ≤ s6.slots
        omega
      split
      · exact hall
      · exact hall
theorem enters_scope (l : List Prm) (s : CS) : (enters l s).scope = s.scope ++ l.map (fun x => x.name) := by
  induction l generalizing s with
  | nil => simp [enters]
  | cons x r ih => show (enters r _).scope = _; rw [ih]; simp [CS.enter]
theorem enters_slots (l : List Prm) (s : CS) (h : s.slots = s.scope.length) : (enters l s).slots = s.scope.length + l.length := by
  induction l generalizing s with
  | nil => simpa [enters] using h
  | cons x r ih =>
    show (enters r _).slots = _
    rw [ih _ (by simp [CS.enter]; omega)]
    simp [CS.enter]; omega
theorem codeOf_linked (fnd : Fnd) (pl : Sym → Nat) (m : Nat) (f : Fun) (lk : List Us) :
    (codeOf fnd m f lk).code.map (lnk pl (codeOf fnd m f lk).calls) = cg (fun n => pl (fnd.sym n)) (m + 1) (f.params.map fun x => x.name) 0 f.body ++ [(6,0)] := by
  have hel := enters_len f.params (begun lk) (by simp [begun])
  have h := (gen_cg fnd pl (m + 1) f.body (enters f.params (begun lk))).trans (Gn.emit pl _ 6 0 (by omega))
  rw [enters_scope,hel.2.2.1] at h
  obtain ⟨d,k,h1,h2,h3,_⟩ := h
  have h4 := h3 []
  rw [hel.2.2.1] at h1
  unfold codeOf
  rw [h1,← List.append_nil (CS.calls _)]
  simpa [begun] using h4
theorem codeOf_slots {known : List UInt8 → Prop} (fnd : Fnd) (m : Nat) (f : Fun) (lk : List Us) (h : Shp known (m + 1) f.body) (hl : Leafy (m + 1) f.body) :
    mx (m + 1) f.params.length f.body ≤ (codeOf fnd m f lk).slots ∧ f.params.length ≤ (codeOf fnd m f lk).slots ∧ (codeOf fnd m f lk).slots ≤ f.params.length + sz (m + 1) f.body := by
  have hel := enters_len f.params (begun lk) (by simp [begun])
  have hsl := enters_slots f.params (begun lk) rfl
  simp only [begun,List.length_nil,Nat.zero_add] at hsl hel
  have hg := gen_slo (known := known) fnd (m + 1) f.body (enters f.params (begun lk)) h hl (by unfold begun; omega)
  have hw := (gen_grew fnd (m + 1) f.body (enters f.params (begun lk))).slots
  unfold begun at hg hw
  obtain ⟨a,b,c⟩ := hg
  rw [hel.1] at b hw
  unfold codeOf begun
  refine ⟨b,by simp only [CS.emit]; omega,by simp only [CS.emit]; omega⟩
end Go.Proofs.YtpmmjkiclngpmaaGreatDoor
