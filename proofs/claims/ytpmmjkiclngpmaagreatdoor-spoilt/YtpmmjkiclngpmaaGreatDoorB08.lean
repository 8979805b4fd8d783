/- YtpmmjkiclngpmaaGreatDoorB08 -/
import Derived.Test.YtpmmjkiclngpmaaGreatDoorB07
import Derived.Test.YtpmmjkiclngpmaaGreatDoorB02
set_option maxRecDepth 100000
set_option linter.unusedSimpArgs false
set_option linter.unusedVariables false
set_option maxHeartbeats 12800000
namespace Go.Proofs.YtpmmjkiclngpmaaGreatDoor
open Go.RowKit
def slotR (name : List UInt8) : List (List UInt8) → Int
  | [] => -1
  | x :: r => if 0 < r.length ∧ x ≠ name then slotR name r else r.length
def slotI (sc : List (List UInt8)) (name : List UInt8) : Int := slotR name sc.reverse
def cgs (g : Nat → Ex → List (Nat × Int)) : Nat → List Ex → List (Nat × Int)
  | _,[] => []
  | p,e :: r => g p e ++ cgs g (p + (g p e).length) r
def opOf (k : Nat) : Nat := if 7 ≤ k ∧ k ≤ 13 then k else 14
def cg (cal : List UInt8 → Nat) : Nat → List (List UInt8) → Nat → Ex → List (Nat × Int)
  | 0,_,_,_ => []
  | m + 1,sc,p,e =>
    if e.kind = 0 ∨ e.kind = 1 then [(0,e.value)]
    else if e.kind = 2 then [(1,slotI sc e.name)]
    else if e.kind = 4 then cgs (cg cal m sc) p (e.parts.take 1)
    else if e.kind = 5 then
      (match e.parts with
      | [a,b,c] =>
        let x := cg cal m sc p a
        let y := cg cal m sc (p + x.length + 1) b
        let z := cg cal m sc (p + x.length + 1 + y.length + 1) c
        x ++ [(4,((p + x.length + 1 + y.length + 1 : Nat) : Int))] ++ y ++ [(3,((p + x.length + 1 + y.length + 1 + z.length : Nat) : Int))] ++ z
      | _ => [])
    else if e.kind = 6 then
      (match e.parts with
      | [a,b] => cg cal m sc p a ++ [(2,(sc.length : Int))] ++ cg cal m (sc ++ [e.name]) (p + (cg cal m sc p a).length + 1) b
      | _ => [])
    else if e.kind = 3 then cgs (cg cal m sc) p e.parts ++ [(5,(cal e.name : Int))]
    else cgs (cg cal m sc) p e.parts ++ [(opOf e.kind,0)]
structure PF where
  params : List (List UInt8)
  body : Ex
  cal : List UInt8 → Nat
def evs (g : Nat → Ex → Int × Nat × Nat) : Nat → List Ex → List Int × Nat × Nat
  | f,[] => ([],f,0)
  | f,e :: r =>
    if (g f e).2.2 = 0 then ((g f e).1 :: (evs g (g f e).2.1 r).1,(evs g (g f e).2.1 r).2) else ([],(g f e).2)
def opv (k : Nat) (l : List Int) (f : Nat) : Int × Nat × Nat :=
  match l with
  | [a] => if k = 13 ∨ k = 14 then (un1 k a,f,0) else (0,f,99)
  | [a,b] => if 7 ≤ k ∧ k < 13 then (if k = 12 ∧ b = 0 then (0,f,12) else (bin2 k a b,f,0)) else (0,f,99)
  | _ => (0,f,99)
def ev (Fs : List PF) : Nat → Nat → (List UInt8 → Nat) → List (List UInt8) → List Int → Nat → Ex → Int × Nat × Nat
  | 0,_,_,_,_,f,_ => (0,f,99)
  | n + 1,d,cal,sc,env,f,e =>
    if e.kind = 0 ∨ e.kind = 1 then (e.value,f,0)
    else if e.kind = 2 then (if 0 ≤ slotI sc e.name then (match env[(slotI sc e.name).toNat]? with | some y => (y,f,0) | none => (0,f,99)) else (0,f,99))
    else if e.kind = 4 then (match e.parts with | [a] => ev Fs n d cal sc env f a | _ => (0,f,99))
    else if e.kind = 5 then
      (match e.parts with
      | [a,b,c] =>
        let x := ev Fs n d cal sc env f a
        if x.2.2 = 0 then (if x.1 = 0 then ev Fs n d cal sc env x.2.1 c else ev Fs n d cal sc env x.2.1 b) else (0,x.2)
      | _ => (0,f,99))
    else if e.kind = 6 then
      (match e.parts with
      | [a,b] =>
        let x := ev Fs n d cal sc env f a
        if x.2.2 = 0 then ev Fs n d cal (sc ++ [e.name]) (env ++ [x.1]) x.2.1 b else (0,x.2)
      | _ => (0,f,99))
    else if e.kind = 3 then
      let x := evs (ev Fs n d cal sc env) f e.parts
      if x.2.2 = 0 then
        (if x.2.1 = 0 then (0,0,11) else if d = 0 then (0,x.2.1,13)
        else match Fs[cal e.name]? with
          | none => (0,x.2.1,99)
          | some F => if F.params.length = x.1.length then ev Fs n (d - 1) F.cal F.params x.1 (x.2.1 - 1) F.body else (0,x.2.1,99))
      else (0,x.2)
    else
      let x := evs (ev Fs n d cal sc env) f e.parts
      if x.2.2 = 0 then opv e.kind x.1 x.2.1 else (0,x.2)
def deep : Nat → Ex → Prop
  | 0,_ => False
  | m + 1,e => ∀ x ∈ e.parts,deep m x
def szL (g : Ex → Nat) (l : List Ex) : Nat := l.foldr (fun e n => g e + n) 0
def sz : Nat → Ex → Nat
  | 0,_ => 1
  | m + 1,e => 1 + szL (sz m) e.parts
def Does (fs : List Fn) (fi base SL : Nat) (rest : List Int) (frs : List Fr) (env : List Int) (bound p len f : Nat) (vals : List Int) (r : Nat × Nat) : Prop :=
  ∀ (tmp slots : List Int),slots.length = SL → slots.take env.length = env → tmp.length + SL + base + bound ≤ 1000000 →
    (r.2 = 0 → ∃ slots' : List Int,slots'.length = SL ∧ slots'.take env.length = env ∧
      Steps fs ⟨tmp ++ (slots.reverse ++ rest),⟨fi,p,base⟩ :: frs,f,0⟩ ⟨vals.reverse ++ (tmp ++ (slots'.reverse ++ rest)),⟨fi,p + len,base⟩ :: frs,r.1,0⟩) ∧
    (r.2 ≠ 0 → r.2 ≠ 99 → ∃ t,Steps fs ⟨tmp ++ (slots.reverse ++ rest),⟨fi,p,base⟩ :: frs,f,0⟩ t ∧ t.wrong = r.2)
theorem szL_len (g : Ex → Nat) (l : List Ex) (h : ∀ e ∈ l,1 ≤ g e) : l.length ≤ szL g l := by
  induction l with
  | nil => simp [szL]
  | cons e r ih =>
    have := ih (fun x hx => h x (by simp [hx]))
    have := h e (by simp)
    simp only [szL,List.foldr_cons,List.length_cons] at *
    omega
theorem sz_pos (m : Nat) (e : Ex) : 1 ≤ sz m e := by cases m <;> simp [sz]
end Go.Proofs.YtpmmjkiclngpmaaGreatDoor
