/- YtpmmjkiclngpmaaGreatDoorB11 -/
import Derived.Test.YtpmmjkiclngpmaaGreatDoorB10
set_option maxRecDepth 100000
set_option linter.unusedSimpArgs false
set_option linter.unusedVariables false
set_option maxHeartbeats 12800000
namespace Go.Proofs.YtpmmjkiclngpmaaGreatDoor
open Go.RowKit
abbrev Sym := List UInt8 × List UInt8
def lnk (pl : Sym → Nat) (all : List Sym) (x : Nat × Int) : Nat × Int := if x.1 = 5 then (5,((pl (all.getD x.2.toNat ([],[])) : Nat) : Int)) else x
theorem lnk_fst (pl : Sym → Nat) (all : List Sym) (x : Nat × Int) : (lnk pl all x).1 = x.1 := by
  unfold lnk; split
  · next h => exact h.symm
  · rfl
def Gn (pl : Sym → Nat) (s t : CS) (c : List (Nat × Int)) : Prop :=
  ∃ d k,t.code = s.code ++ d ∧ t.calls = s.calls ++ k ∧ (∀ rest,d.map (lnk pl (t.calls ++ rest)) = c) ∧ ∀ x ∈ d,x.1 = 5 → 0 ≤ x.2 ∧ x.2.toNat < t.calls.length
theorem Gn.len {pl : Sym → Nat} {s t : CS} {c : List (Nat × Int)} (h : Gn pl s t c) : t.code.length = s.code.length + c.length := by
  obtain ⟨d,k,h1,h2,h3,_⟩ := h
  rw [h1,List.length_append,← h3 [],List.length_map]
theorem Gn.refl (pl : Sym → Nat) (s : CS) : Gn pl s s [] := ⟨[],[],by simp,by simp,by simp,by simp⟩
theorem Gn.trans {pl : Sym → Nat} {s t u : CS} {c d : List (Nat × Int)} (h : Gn pl s t c) (g : Gn pl t u d) : Gn pl s u (c ++ d) := by
  obtain ⟨d1,k1,a1,a2,a3,a4⟩ := h
  obtain ⟨d2,k2,b1,b2,b3,b4⟩ := g
  refine ⟨d1 ++ d2,k1 ++ k2,by rw [b1,a1,List.append_assoc],by rw [b2,a2,List.append_assoc],fun rest => ?_,fun x hx h5 => ?_⟩
  · rw [List.map_append,b3 rest,← a3 (k2 ++ rest),b2,List.append_assoc]
  · rcases List.mem_append.1 hx with hx | hx
    · have := a4 x hx h5
      rw [b2,List.length_append]; omega
    · exact b4 x hx h5
theorem Gn.emit (pl : Sym → Nat) (s : CS) (op : Nat) (v : Int) (h : op ≠ 5) : Gn pl s (s.emit op v) [(op,v)] :=
  ⟨[(op,v)],[],rfl,by simp [CS.emit],fun rest => by simp [lnk,h],fun x hx h5 => by simp only [List.mem_singleton] at hx; subst hx; exact absurd h5 h⟩
theorem Gn.calls1 (pl : Sym → Nat) (s : CS) (x : Sym) : Gn pl s (s.calls1 x) [(5,((pl x : Nat) : Int))] :=
  ⟨[(5,(s.calls.length : Int))],[x],rfl,rfl,fun rest => by simp [lnk,CS.calls1,CS.emit,List.getD,List.getElem?_append_right],fun x hx h5 => by simp only [List.mem_singleton] at hx; subst hx; simp [CS.calls1,CS.emit]⟩
theorem set_mid {α : Type} (a b : List α) (x y : α) : (a ++ [x] ++ b).set a.length y = a ++ [y] ++ b := by
  induction a with
  | nil => rfl
  | cons z a ih => simp only [List.cons_append,List.length_cons,List.set_cons_succ]; rw [ih]
theorem Gn.land {pl : Sym → Nat} {s t : CS} {a b : List (Nat × Int)} {op : Nat} {v : Int} (h : Gn pl s t (a ++ [(op,v)] ++ b)) (ho : op ≠ 5) (j : Nat) (hj : j = s.code.length + a.length) :
    Gn pl s (t.land j) (a ++ [(op,(t.code.length : Int))] ++ b) := by
  obtain ⟨d,k,h1,h2,h3,h4⟩ := h
  subst hj
  have hd : d.length = a.length + 1 + b.length := by have := congrArg List.length (h3 []); simp at this; omega
  have hlt : a.length < d.length := by omega
  have hop : (d[a.length]).1 = op := by
    have e : (d.map (lnk pl (t.calls ++ [])))[a.length]? = some (op,v) := by rw [h3 []]; simp
    rw [List.getElem?_map,List.getElem?_eq_getElem hlt] at e
    simp only [Option.map_some,Option.some.injEq] at e
    rw [← lnk_fst pl (t.calls ++ []),e]
  refine ⟨d.set a.length (op,(t.code.length : Int)),k,?_,h2,fun rest => ?_,fun x hx h5 => ?_⟩
  · show t.code.set _ _ = _
    have hg : (t.code.getD (s.code.length + a.length) (0,0)).1 = op := by
      rw [h1,List.getD,List.getElem?_append_right (by omega),Nat.add_sub_cancel_left,List.getElem?_eq_getElem hlt]
      exact hop
    rw [hg]
    have hl : (t.code.length : Int) = (t.code.length : Int) := rfl
    generalize (t.code.length : Int) = n
    rw [h1,List.set_append_right _ _ (by omega),Nat.add_sub_cancel_left]
  · show (d.set _ _).map (lnk pl (t.calls ++ rest)) = _
    rw [List.map_set,h3 rest,set_mid]
    simp [lnk,ho]
  · rcases List.mem_or_eq_of_mem_set hx with hx | rfl
    · exact h4 x hx h5
    · exact absurd h5 ho
theorem gens_cg {pl : Sym → Nat} {g : Ex → CS → CS} {C : List (List UInt8) → Nat → Ex → List (Nat × Int)} (l : List Ex) (h : ∀ x ∈ l,∀ s,Gn pl s (g x s) (C s.scope s.code.length x) ∧ (g x s).scope = s.scope) (s : CS) :
    Gn pl s (gens g l s) (cgs (C s.scope) s.code.length l) := by
  induction l generalizing s with
  | nil => exact Gn.refl _ _
  | cons x r ih =>
    have h1 := h x (by simp) s
    have h2 := ih (fun y hy => h y (by simp [hy])) (g x s)
    rw [h1.2,h1.1.len] at h2
    exact h1.1.trans h2
theorem opOf_ne (k : Nat) : opOf k ≠ 5 := by unfold opOf; split <;> omega
theorem gen_cg (fnd : Fnd) (pl : Sym → Nat) (m : Nat) : ∀ (e : Ex) (s : CS),Gn pl s (gen fnd m e s) (cg (fun n => pl (fnd.sym n)) m s.scope s.code.length e) := by
  induction m with
  | zero => intro e s; exact Gn.refl _ _
  | succ m ih =>
    intro e s
    have hs : ∀ (x : Ex) (s : CS),(gen fnd m x s).scope = s.scope := fun x s => (gen_grew fnd m x s).scope
    have hall : ∀ l : List Ex,Gn pl s (gens (gen fnd m) l s) (cgs (cg (fun n => pl (fnd.sym n)) m s.scope) s.code.length l) := fun l => gens_cg (g := gen fnd m) (C := cg (fun n => pl (fnd.sym n)) m) l (fun x _ s => ⟨ih x s,hs x s⟩) s
    unfold gen cg
    split
    · exact Gn.emit _ _ _ _ (by omega)
    split
    · exact Gn.emit _ _ _ _ (by omega)
    split
    · exact hall _
    split
    · match e.parts with
      | [a,b,c] =>
        simp only
        unfold CS.ifs
        have h1 := ih a s
        have hs1 := hs a s
        generalize gen fnd m a s = s1 at *
        have h2 := h1.trans (Gn.emit pl s1 4 0 (by omega))
        have h3 := ih b (s1.emit 4 0)
        have hs3 := hs b (s1.emit 4 0)
        have e3 : (s1.emit 4 0).scope = s.scope := hs1
        rw [e3] at h3 hs3
        rw [h2.len] at h3
        generalize gen fnd m b (s1.emit 4 0) = s3 at *
        have h4 := (h2.trans h3).trans (Gn.emit pl s3 3 0 (by omega))
        simp only [List.length_append,List.length_cons,List.length_nil,Nat.zero_add] at h3 h4
        generalize cg (fun n => pl (fnd.sym n)) m s.scope s.code.length a = x at *
        rw [show s.code.length + (x.length + 1) = s.code.length + x.length + 1 by omega] at h3 h4
        generalize cg (fun n => pl (fnd.sym n)) m s.scope (s.code.length + x.length + 1) b = y at *
        have hl1 := h1.len
        have hl3 := (h2.trans h3).len
        simp only [List.length_append,List.length_cons,List.length_nil,Nat.zero_add] at hl3
        rw [List.append_assoc (x ++ [(4,0)])] at h4
        have h5 := h4.land (by omega) s1.code.length hl1
        have hn5 : ((s3.emit 3 0).code.length : Int) = ((s.code.length + x.length + 1 + y.length + 1 : Nat) : Int) := by simp [CS.emit]; omega
        rw [hn5] at h5
        have h6 := ih c ((s3.emit 3 0).land s1.code.length)
        have e6 : ((s3.emit 3 0).land s1.code.length).scope = s.scope := hs3
        have hl5 := h5.len
        simp only [List.length_append,List.length_cons,List.length_nil,Nat.zero_add] at hl5
        rw [e6,hl5,show s.code.length + (x.length + 1 + (y.length + 1)) = s.code.length + x.length + 1 + y.length + 1 by omega] at h6
        generalize gen fnd m c ((s3.emit 3 0).land s1.code.length) = s6 at *
        generalize cg (fun n => pl (fnd.sym n)) m s.scope (s.code.length + x.length + 1 + y.length + 1) c = z at *
        have h7 := h5.trans h6
        have hl7 := h7.len
        simp only [List.length_append,List.length_cons,List.length_nil,Nat.zero_add] at hl7
        rw [show x ++ [(4,((s.code.length + x.length + 1 + y.length + 1 : Nat) : Int))] ++ (y ++ [(3,0)]) ++ z = (x ++ [(4,((s.code.length + x.length + 1 + y.length + 1 : Nat) : Int))] ++ y) ++ [(3,0)] ++ z by simp] at h7
        have h8 := h7.land (by omega) s3.code.length (by simp; omega)
        rw [show (s6.code.length : Int) = ((s.code.length + x.length + 1 + y.length + 1 + z.length : Nat) : Int) by omega] at h8
        exact h8
      | [] => exact Gn.refl _ _
      | [_] => exact Gn.refl _ _
      | [_,_] => exact Gn.refl _ _
      | _ :: _ :: _ :: _ :: _ => exact Gn.refl _ _
    split
    · match e.parts with
      | [a,b] =>
        simp only
        unfold CS.lets
        have h1 := ih a s
        have hs1 := hs a s
        generalize gen fnd m a s = s1 at *
        have h2 : Gn pl s ((s1.enter e.name).emit 2 s1.scope.length) (cg (fun n => pl (fnd.sym n)) m s.scope s.code.length a ++ [(2,(s.scope.length : Int))]) := by
          rw [hs1]
          exact Gn.trans (t := s1.enter e.name) h1 (Gn.emit pl _ 2 _ (by omega))
        have h3 := ih b ((s1.enter e.name).emit 2 s1.scope.length)
        have e3 : ((s1.enter e.name).emit 2 s1.scope.length).scope = s.scope ++ [e.name] := by rw [← hs1]; rfl
        rw [e3,h2.len] at h3
        simp only [List.length_append,List.length_cons,List.length_nil,Nat.zero_add] at h3
        rw [← Nat.add_assoc] at h3
        exact h2.trans h3
      | [] => exact Gn.refl _ _
      | [_] => exact Gn.refl _ _
      | _ :: _ :: _ :: _ => exact Gn.refl _ _
    split
    · exact (hall _).trans (Gn.calls1 pl _ _)
    · exact (hall _).trans (Gn.emit pl _ _ _ (opOf_ne _))
end Go.Proofs.YtpmmjkiclngpmaaGreatDoor
