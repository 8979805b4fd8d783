/- YtpmmjkiclngpmaaGreatDoorB07 -/
import Derived.Test.YtpmmjkiclngpmaaGreatDoorB06
import Derived.Deep.RegionWith
set_option maxRecDepth 100000
set_option linter.unusedSimpArgs false
set_option linter.unusedVariables false
set_option maxHeartbeats 12800000
namespace Go.Proofs.YtpmmjkiclngpmaaGreatDoor
open Tryz
open Go.RowKit
variable{s t u:MS}{fs:List Fn}
def Fr.unl(x:Fr)(y:Int)(p:Nat):Fr:=if y=0 then {x with next:=p}else x
def MS.call(fs:List Fn)(k:Nat)(s:MS):Option MS:=
 if s.fuel=0 then some {s with AY:=11}
 else if s.yB.length=100 then some {s with AY:=13}
 else match fs[k]? with
  |none=>none
  |some F=>if F.ay<=s.stack.length then some ⟨List.replicate (F.aee-F.ay) 0++s.stack,⟨k,0,s.stack.length-F.ay⟩::s.yB,s.fuel-1,s.AY⟩else none
def MS.exec(fs:List Fn)(op:Nat)(v:Int)(x:Fr)(r:List Fr)(st:List Int)(fuel:Nat):Option MS:=
 if op=0 then some ⟨v::st,x::r,fuel,0⟩
 else if op=1 then(if 0<=v then(match st.reverse[x.base+v.toNat]? with|some y=>some ⟨y::st,x::r,fuel,0⟩|none=>none)else none)
 else if op=2 then(if 0<=v then(match st with|y::q=>if x.base+v.toNat<q.length then some ⟨(q.reverse.set (x.base+v.toNat) y).reverse,x::r,fuel,0⟩else none| []=>none)else none)
 else if op=3 then(if 0<=v then some ⟨st,{x with next:=v.toNat}::r,fuel,0⟩else none)
 else if op=4 then(if 0<=v then(match st with|y::q=>some ⟨q,x.unl y v.toNat::r,fuel,0⟩| []=>none)else none)
 else if op=5 then(if 0<=v then MS.call fs v.toNat ⟨st,x::r,fuel,0⟩else none)
 else if op=6 then(match st with|y::q=>if x.base<=q.length then some ⟨y::q.drop (q.length-x.base),r,fuel,0⟩else none| []=>none)
 else if op=13\/op=14 then(match st with|a::q=>some ⟨un1 op a::q,x::r,fuel,0⟩| []=>none)
 else if op<13 then(match st with|b::a::q=>if op=12/\b=0 then some ⟨q,x::r,fuel,12⟩else some ⟨abl op a b::q,x::r,fuel,0⟩|_=>none)
 else none
def MS.step(fs:List Fn)(s:MS):Option MS:=
 match s.yB with
 | []=>none
 |x::r=>if s.AY=0/\s.stack.length<=1000000 then(match fs[x.f]? with
  |none=>none
  |some F=>match F.aK[x.next]? with
   |none=>none
   |some (op,v)=>MS.exec fs op v {x with next:=x.next+1} r s.stack s.fuel)else none
def vR(fs:List Fn):Nat->MS->MS->Prop
 |0,s,t=>s=t
 |n+1,s,t=>∃u,s.step fs=some u/\vR fs n u t
def Steps(fs:List Fn)(s t:MS):Prop:=∃n,vR fs n s t
theorem vR.trans{n m:Nat}(h:vR fs n s t)(k:vR fs m t u):vR fs (n+m) s u:=by
 induction n generalizing s with
 |zero=>cases h;simpa using k
 |succ n ih=>
  obtain⟨v,hv,hr⟩:=h;rw [show n+1+m=n+m+1 by omega];exact⟨v,hv,ih hr⟩
theorem Steps.trans(h:Steps fs s t)(k:Steps fs t u):Steps fs s u:=by
 obtain⟨n,h⟩:=h;obtain⟨m,k⟩:=k;exact⟨n+m,h.trans k⟩
theorem Steps.one(h:s.step fs=some t):Steps fs s t:=⟨1,t,h,rfl⟩
theorem Steps.exec{x:Fr}{r:List Fr}{st:List Int}{fuel:Nat}{F:Fn}{op:Nat}{v:Int}(hF:fs[x.f]?=some F)(hc:F.aK[x.next]?=some (op,v))(hs:st.length<=1000000)(h:MS.exec fs op v {x with next:=x.next+1} r st fuel=some t):Steps fs ⟨st,x::r,fuel,0⟩ t:=by
 refine Steps.one ?_;simp only [MS.step,hF,hc,hs,and_self,if_true];exact h
end Go.Proofs.YtpmmjkiclngpmaaGreatDoor
