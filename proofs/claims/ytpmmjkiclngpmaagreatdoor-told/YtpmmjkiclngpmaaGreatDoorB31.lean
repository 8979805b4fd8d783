/- YtpmmjkiclngpmaaGreatDoorB31 -/
import Derived.Test.YtpmmjkiclngpmaaGreatDoorB12
import Derived.Test.YtpmmjkiclngpmaaGreatDoorB05
set_option maxRecDepth 100000
set_option linter.unusedSimpArgs false
set_option linter.unusedVariables false
set_option maxHeartbeats 12800000
namespace Go.Proofs.YtpmmjkiclngpmaaGreatDoor
open Tryz
open Go.RowKit Go.Maps
theorem lN{P:Program}(w:World){ops:Array Oper}{rest:List Oper}{o:Oper}{a:Act}{Q:Exit->Act->World->Prop}(hg:o.guard=none)(m x:Operand)(t k:TypeId)(hop:o.op=Op.call {callee:=Callee.builtin Builtin.delete,args:=#[m,x],argTypes:=#[t,k]})(e:TypeId)(Kd:Keyed P k)(ht:P.underlying t=some (.map k e))(b:Nat)(ns:List Nm)(ov:Nm->Value)(hm:a.eval m=.map (some b))(hown:cV P w k b ns ov)(key:Value)(n:Nm)(hx:a.eval x=key)(hkey:keyOf P k key=some (.string n))(hK:∀w',cV P w' k b (ns.filter λx=> !(x==n)) ov->w.grownBy w' (some b)->wpList P ops Q rest (a.put o.dst (.tuple #[])) w'):
  wpList P ops Q (o::rest) a w:=by
 refine wpList_plain hg λK' hK'=> ?_
 obtain⟨w',hrun,r1,r2⟩:=hown.drop Kd ht hkey o.type;unfold Oper.wp;simp [execOp,hop,resolve,invoke,builtin,hm,hx,hrun,Result.andThen];exact hK' _ _ (hK w' r1 r2.grown)
end Go.Proofs.YtpmmjkiclngpmaaGreatDoor
