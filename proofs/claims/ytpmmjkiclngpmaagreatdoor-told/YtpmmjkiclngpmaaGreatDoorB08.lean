/- YtpmmjkiclngpmaaGreatDoorB08 -/
import Derived.Test.YtpmmjkiclngpmaaGreatDoorB07
import Derived.Test.YtpmmjkiclngpmaaGreatDoorB02
set_option maxRecDepth 100000
set_option linter.unusedSimpArgs false
set_option linter.unusedVariables false
set_option maxHeartbeats 12800000
namespace Go.Proofs.YtpmmjkiclngpmaaGreatDoor
open Tryz
open Go.RowKit
def yC(ag:List UInt8):List (List UInt8)->Int
 | []=> -1
 |x::r=>if 0<r.length/\x≠ag then yC ag r else r.length
def yD(sc:List (List UInt8))(ag:List UInt8):Int:=yC ag sc.reverse
def XK(g:Nat->Ex->List (Nat×Int)):Nat->List Ex->List (Nat×Int)
 |_,[]=> []
 |p,e::r=>g p e++XK g (p+(g p e).length) r
def tL(k:Nat):Nat:=if 7<=k/\k<=13 then k else 14
def cg(tM:List UInt8->Nat):Nat->List (List UInt8)->Nat->Ex->List (Nat×Int)
 |0,_,_,_=> []
 |m+1,sc,p,e=>
  if e.aL=0\/e.aL=1 then [(0,e.value)]
  else if e.aL=2 then [(1,yD sc e.ag)]
  else if e.aL=4 then XK (cg tM m sc) p (e.aw.take 1)
  else if e.aL=5 then
   (match e.aw with
   | [a,b,c]=>
    let x:=cg tM m sc p a
    let y:=cg tM m sc (p+x.length+1) b
    let z:=cg tM m sc (p+x.length+1+y.length+1) c
    x++ [(4,((p+x.length+1+y.length+1:Nat):Int))]++y++ [(3,((p+x.length+1+y.length+1+z.length:Nat):Int))]++z
   |_=> [])
  else if e.aL=6 then
   (match e.aw with
   | [a,b]=>cg tM m sc p a++ [(2,(sc.length:Int))]++cg tM m (sc++ [e.ag]) (p+(cg tM m sc p a).length+1) b
   |_=> [])
  else if e.aL=3 then XK (cg tM m sc) p e.aw++ [(5,(tM e.ag:Int))]
  else XK (cg tM m sc) p e.aw++ [(tL e.aL,0)]
def deep:Nat->Ex->Prop
 |0,_=>False
 |m+1,e=>∀x∈e.aw,deep m x
def gD(g:Ex->Nat)(l:List Ex):Nat:=l.foldr (λe n=>g e+n) 0
def sz:Nat->Ex->Nat
 |0,_=>1
 |m+1,e=>1+gD (sz m) e.aw
def Does(fs:List Fn)(fi base SL:Nat)(rest:List Int)(frs:List Fr)(env:List Int)(bound p len f:Nat)(vals:List Int)(r:Nat×Nat):Prop:=
 ∀(tmp aee:List Int),aee.length=SL->aee.take env.length=env->tmp.length+SL+base+bound<=1000000->
  (r.2=0->∃GD:List Int,GD.length=SL/\GD.take env.length=env/\
   Steps fs ⟨tmp++(aee.reverse++rest),⟨fi,p,base⟩::frs,f,0⟩ ⟨vals.reverse++(tmp++(GD.reverse++rest)),⟨fi,p+len,base⟩::frs,r.1,0⟩)/\
  (r.2≠0->r.2≠99->∃t,Steps fs ⟨tmp++(aee.reverse++rest),⟨fi,p,base⟩::frs,f,0⟩ t/\t.AY=r.2)
theorem xX(g:Ex->Nat)(l:List Ex)(h:∀e∈l,1<=g e):l.length<=gD g l:=by
 induction l with
 |nil=>simp [gD]
 |cons e r ih=>
  have:=ih (λx hx=>h x (by simp [hx]));have:=h e (by simp);simp only [gD,List.foldr_cons,List.length_cons]at*;omega
theorem C2(m:Nat)(e:Ex):1<=sz m e:=by cases m<;>simp [sz]
end Go.Proofs.YtpmmjkiclngpmaaGreatDoor
