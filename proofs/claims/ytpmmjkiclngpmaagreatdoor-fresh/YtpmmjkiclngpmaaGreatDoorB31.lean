/- B31: of the texts StepMap. -/
import Derived.Test.YtpmmjkiclngpmaaGreatDoorB12
import Derived.Test.YtpmmjkiclngpmaaGreatDoorB05
set_option maxRecDepth 100000
set_option linter.unusedSimpArgs false
set_option linter.unusedVariables false
/- Looking into a map, and writing it, as steps of a region that draws its order. -/
namespace Go.Proofs.YtpmmjkiclngpmaaGreatDoor
open Go.RowKit Go.Maps

theorem step_put_f {P : Program} {ops : Array Oper} {o : Oper} {a : Act} {w : World} {K : Act → World → Prop} {Q : Exit → Act → World → Prop} {E : Prop}
    (hg : o.guard = none) (m x v : Operand) (t : TypeId) (hop : o.op = Op.mapUpdate t m x v)
    (k e : TypeId) (Kd : Keyed P k) (ht : P.underlying t = some (.map k e)) (b : Nat) (ns : List Nm) (ov : Nm → Value)
    (hm : a.eval m = .map (some b)) (hown : MapF P w k b ns ov) (hn : ns.length < maxLen) (key val : Value) (n : Nm) (hx : a.eval x = key) (hv : a.eval v = val) (hkey : keyOf P k key = some (.string n))
    (hK : ∀ w', MapF P w' k b (putB n ns) (updF ov n val) → w.grownBy w' (some b) → K (a.put o.dst undef) w') :
    if Region.wanted o (yielded ops a.tmps) = true then Oper.wp P o a w K Q else E := by
  have hw : Region.wanted o (yielded ops a.tmps) = true := by simp [Region.wanted, hg]
  rw [if_pos hw]
  obtain ⟨w', hrun, h1, h2⟩ := hown.put Kd ht hn (val := val) hkey
  unfold Oper.wp
  simp [execOp, hop, hm, hx, hv, hrun, Result.andThen]
  exact hK w' h1 h2
theorem step_look_f {P : Program} {ops : Array Oper} {o : Oper} {a : Act} {w : World} {K : Act → World → Prop} {Q : Exit → Act → World → Prop} {E : Prop}
    (hg : o.guard = none) (m x : Operand) (t : TypeId) (hop : o.op = Op.lookup t m x false)
    (k e : TypeId) (Kd : Keyed P k) (ht : P.underlying t = some (.map k e)) (b : Nat) (ns : List Nm) (ov : Nm → Value)
    (hm : a.eval m = .map (some b)) (hown : MapF P w k b ns ov) (z : Value) (hz : (zeroValue e).run P w = .ok z w) (key : Value) (n : Nm) (hx : a.eval x = key) (hkey : keyOf P k key = some (.string n))
    (u : Value) (hu : (if n ∈ ns then ov n else z) = u) (hK : K (a.put o.dst u) w) :
    if Region.wanted o (yielded ops a.tmps) = true then Oper.wp P o a w K Q else E := by
  have hw : Region.wanted o (yielded ops a.tmps) = true := by simp [Region.wanted, hg]
  rw [if_pos hw]
  have hrun := hown.look Kd ht hz hkey
  rw [hu] at hrun
  unfold Oper.wp
  simp [execOp, hop, hm, hx, hrun, Result.andThen]
  exact hK
theorem wpList_delete_f {P : Program} (w : World) {ops : Array Oper} {rest : List Oper} {o : Oper} {a : Act} {Q : Exit → Act → World → Prop}
    (hg : o.guard = none) (m x : Operand) (t k : TypeId) (hop : o.op = Op.call { callee := Callee.builtin Builtin.delete, args := #[m, x], argTypes := #[t, k] })
    (e : TypeId) (Kd : Keyed P k) (ht : P.underlying t = some (.map k e)) (b : Nat) (ns : List Nm) (ov : Nm → Value)
    (hm : a.eval m = .map (some b)) (hown : MapF P w k b ns ov) (key : Value) (n : Nm) (hx : a.eval x = key) (hkey : keyOf P k key = some (.string n))
    (hK : ∀ w', MapF P w' k b (ns.filter fun x => !(x == n)) ov → w.grownBy w' (some b) → wpList P ops Q rest (a.put o.dst (.tuple #[])) w') :
    wpList P ops Q (o :: rest) a w := by
  refine wpList_plain hg fun K' hK' => ?_
  obtain ⟨w', hrun, r1, r2⟩ := hown.drop Kd ht hkey o.type
  unfold Oper.wp
  simp [execOp, hop, resolve, invoke, builtin, hm, hx, hrun, Result.andThen]
  exact hK' _ _ (hK w' r1 r2.grown)
theorem wpList_clear_f {P : Program} (w : World) {ops : Array Oper} {rest : List Oper} {o : Oper} {a : Act} {Q : Exit → Act → World → Prop}
    (hg : o.guard = none) (m : Operand) (t : TypeId) (hop : o.op = Op.call { callee := Callee.builtin Builtin.clear, args := #[m], argTypes := #[t] })
    (k e : TypeId) (ht : P.underlying t = some (.map k e)) (b : Nat) (ns : List Nm) (ov : Nm → Value)
    (hm : a.eval m = .map (some b)) (hown : MapF P w k b ns ov) (g : Nm → Value)
    (hK : ∀ w', MapF P w' k b [] g → w.grownBy w' (some b) → wpList P ops Q rest (a.put o.dst (.tuple #[])) w') :
    wpList P ops Q (o :: rest) a w := by
  refine wpList_plain hg fun K' hK' => ?_
  obtain ⟨w', hrun, r1, r2⟩ := hown.clear ht o.type g
  unfold Oper.wp
  simp [execOp, hop, resolve, invoke, builtin, hm, hrun, Result.andThen]
  exact hK' _ _ (hK w' r1 r2.grown)
end Go.Proofs.YtpmmjkiclngpmaaGreatDoor
