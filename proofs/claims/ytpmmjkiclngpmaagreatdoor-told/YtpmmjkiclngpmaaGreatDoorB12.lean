/- YtpmmjkiclngpmaaGreatDoorB12 -/
import Derived.Maps.Own
import Derived.Maps.OwnSet
import Derived.Maps.Views
import Derived.Maps.Keyed
import Derived.Maps.Range
import Derived.Below
import Derived.Test.YtpmmjkiclngpmaaGreatDoorProg
import Derived.DeepKeys3
import Derived.Maps.RangeWalk
set_option maxRecDepth 100000
set_option linter.unusedSimpArgs false
set_option linter.unusedVariables false
set_option maxHeartbeats 12800000
namespace Go.Proofs.YtpmmjkiclngpmaaGreatDoor
open Tryz
open Go.RowKit Go.Maps Go.WideMaps
variable{kl:Lit}{key:Value}{x y:List UInt8×List UInt8}
def vT(v:Value):Option (DataW Value×List MemPlace):=some (.held v,[])
def upd(d:∀p:Prop,Decidable p)(get:Lit->Option Value)(kl:Lit)(o:Option Value):Lit->Option Value:=λq=> @ite _ (q=kl) (d _) o (get q)
theorem upd_same(d:∀p:Prop,Decidable p)(get:Lit->Option Value)(kl:Lit)(o:Option Value):upd d get kl o kl=o:=by unfold upd;exact if_pos rfl
theorem vU(d:∀p:Prop,Decidable p)(get:Lit->Option Value)(kl:Lit)(o:Option Value){q:Lit}(h:q≠kl):upd d get kl o q=get q:=by unfold upd;exact if_neg h
def nL(P:Program)(w:World)(k:TypeId)(b n:Nat)(get:Lit->Option Value):Prop:=
 ∃D,w.ownsMap P k vT b n D/\∀kl,(∃v,keyOf P k v=some kl)->has D kl=(get kl).isSome/\∀z,D.atKey kl z=match get kl with|some v=> .held v|none=>z
variable {P:Program} {w w':World} {k:TypeId} {b n:Nat} {get:Lit->Option Value}
theorem nL.new(P:Program)(w:World)(k:TypeId):nL P (w.alloc (.map #[] 0)) k w.heap.size 0 (λ_=>none):=
 ⟨.map [],World.ownsMap_made _ _ _ _,λkl _=>⟨rfl,λz=>rfl⟩⟩
theorem nL.lt(h:nL P w k b n get):b<w.heap.size:=by obtain⟨D,hm,_⟩:=h;exact hm.lt
theorem nL.keep(h:nL P w k b n get)(hk:w'.heap[b]?=w.heap[b]?):nL P w' k b n get:=by
 obtain⟨D,⟨es,cl,hb,F,hs,hD⟩,hat⟩:=h;exact⟨D,⟨es,cl,hk.trans hb,F,hs,hD⟩,hat⟩
theorem nL.isMap(h:nL P w k b n get):∃es cl,w.heap[b]?=some (.map es cl):=by
 obtain⟨D,⟨es,cl,hb,_⟩,_⟩:=h;exact⟨_,_,hb⟩
theorem uH{v:Value}{d:DataW Value}{ps:List MemPlace}(h:vT v=some (d,ps)):d=.held v:=by
 simp only [vT,Option.some.injEq,Prod.mk.injEq]at h;exact h.1.symm
theorem nL.ar(h:nL P w k b n get)(K:Keyed P k){t e:TypeId}(ht:P.underlying t=some (.map k e)){z:Value}(hz:(zeroValue e).run P w=.ok z w)(hkey:keyOf P k key=some kl):
  (Instr.lookup t (.map (some b)) key false).run P w=.ok ((get kl).getD z) w:=by
 obtain⟨D,hm,hat⟩:=h;obtain⟨v,ps,hrun,hv⟩:=hm.lookup K ht hz (zd:=.held z) (zp:= []) rfl hkey;have h1:=uH hv;rw [(hat kl ⟨_,hkey⟩).2]at h1;rw [hrun]
 cases hg:get kl with
 |none=>rw [hg]at h1;simp only [DataW.held.injEq]at h1;rw [<-h1];rfl
 |some u=>rw [hg]at h1;simp only [DataW.held.injEq]at h1;rw [<-h1];rfl
theorem nL.Vd{D:DataW Value}(hm:w.ownsMap P k vT b n D)(hat:∀kl,(∃v,keyOf P k v=some kl)->has D kl=(get kl).isSome/\∀z,D.atKey kl z=match get kl with|some v=> .held v|none=>z)(K:Keyed P k){kl:Lit}{v:Value}(hk:∃u,keyOf P k u=some kl){n':Nat}(Ve:w'.ownsMap P k vT b n' (D.put kl (.held v))):nL P w' k b n' (upd Classical.propDecidable get kl (some v)):=by
 refine⟨_,Ve,λq hq=> ?_⟩;obtain⟨u,hu⟩:=hk
 by_cases e:q=kl
 ·subst e
  rw [upd_same];exact⟨has_put_same hm.isMap (K.key hu) _,λz=>atKey_put_same hm.isMap (K.key hu) _ _⟩
 rw [vU _ _ _ _ e];exact⟨by rw [has_put_other e];exact(hat q hq).1,λz=>by rw [atKey_put_other e];exact(hat q hq).2 z⟩
theorem nL.put(h:nL P w k b n get)(K:Keyed P k){t e:TypeId}(ht:P.underlying t=some (.map k e))(hn:n<maxLen){key val:Value}(hkey:keyOf P k key=some kl):
  ∃w',(Instr.mapUpdate t (.map (some b)) key val).run P w=.ok () w'/\nL P w' k b (n+1) (upd Classical.propDecidable get kl (some val))/\w.grownBy w' (some b):=by
 obtain⟨D,hm,hat⟩:=h;obtain⟨w',hrun,h1,h2⟩:=hm.update K ht hn hkey (val:=val) (d:=.held val) (ps:= []) rfl;exact⟨w',hrun,nL.Vd hm hat K ⟨_,hkey⟩ h1,h2⟩
theorem nL.drop(h:nL P w k b n get)(K:Keyed P k){t e:TypeId}(ht:P.underlying t=some (.map k e))(hkey:keyOf P k key=some kl)(ty:TypeId):
  ∃w',(Builtin.delete_ #[t,k] ty #[.map (some b),key]).run P w=.ok (.tuple #[]) w'/\nL P w' k b n (upd Classical.propDecidable get kl none)/\w.mapTurned w' b:=by
 obtain⟨D,hm,hat⟩:=h;obtain⟨w',hrun,h1,h2⟩:=hm.drop K ht hkey ty;refine⟨w',hrun,⟨_,h1,λq hq=> ?_⟩,h2⟩
 by_cases e:q=kl
 ·subst e
  rw [upd_same];exact⟨by rw [has_del_same];rfl,λz=>atKey_del_same z⟩
 rw [vU _ _ _ _ e];exact⟨by rw [has_del_other e];exact(hat q hq).1,λz=>by rw [atKey_del_other e];exact(hat q hq).2 z⟩
theorem Vf:Keyed prog 87:=Keyed.of_law (Go.deep_law (m:=5) (by omega) (by kernel_rfl) (by kernel_rfl) (by kernel_rfl))
def qQ(x:List UInt8×List UInt8):Value:=.agg #[.string ⟨x.1.toArray⟩,.string ⟨x.2.toArray⟩]
theorem Nn:prog.keyType 87=true:=by kernel_rfl
theorem A_:prog.cellsOf 87=2:=by kernel_rfl
theorem Kn:prog.cellsOf 9=1:=by kernel_rfl
def Np(x:List UInt8×List UInt8):Lit:=.string (keyBytes [.string x.1,.string x.2])
theorem xY(h1:x.1.length<=maxLen)(h2:x.2.length<=maxLen):keyOf prog 87 (qQ x)=some (Np x):=by
 have hu:=underlying87;have hs:=underlying9
 have hb:Nat.ble 1 prog.types.size=true:=by kernel_rfl
 obtain⟨n,hn⟩:∃n,prog.types.size+1=n+2:=⟨prog.types.size-1,by have:=Nat.le_of_ble_eq_true hb;omega⟩
 have hf:(qQ x).formed prog 87=true:=by
  simp [qQ,Value.formed,hu,A_]
 unfold keyOf;rw [hu];simp only [Nn,hf,Bool.and_self,if_true,hn];simp [Program.keyLits,hu,hs,qQ,Value.cells,A_,Kn,Np]
 have e1:(⟨x.1.toArray⟩:ByteArray).size<=maxLen:=by show x.1.toArray.size<=maxLen;simpa using h1
 have e2:(⟨x.2.toArray⟩:ByteArray).size<=maxLen:=by show x.2.toArray.size<=maxLen;simpa using h2
 rw [if_pos e1,if_pos e2]
 rfl
theorem GH(h:qQ x=qQ y):x=y:=by
 unfold qQ at h;simp at h;exact Prod.ext h.1 h.2
theorem Nq(hx1:x.1.length<=maxLen)(hx2:x.2.length<=maxLen)(Ry:y.1.length<=maxLen)(Rz:y.2.length<=maxLen)(h:Np x=Np y):x=y:=
 GH (Vf.inj (xY hx1 hx2) (by rw [h];exact xY Ry Rz))
theorem yG:prog.underlying 240=some (.map 87 3):=underlying240
end Go.Proofs.YtpmmjkiclngpmaaGreatDoor
namespace Go.Proofs.YtpmmjkiclngpmaaGreatDoor
open Tryz
open Go.RowKit Go.Maps Go.WideMaps
open Go.ChangeMaps (setBlock heap_setBlock_same)
variable{key z:Value}
abbrev Nm:=List UInt8
variable{ns:List Nm}{n x:Nm}{g:Nm->Value}
def bY(ns:List Nm):Prop:=ns.Pairwise λa b=>bytesBefore a b=true
theorem bY.ne(h:bY ns):ns.Pairwise λa b=>a≠b:=h.imp λ{a b} hb e=>by subst e;rw [WideAt.bytes_irrefl]at hb;cases hb
theorem bY.ext:∀{l r:List Nm},bY l->bY r->(∀x,x∈l↔x∈r)->l=r
 | [],[],_,_,_=>rfl
 | [],y::r,_,_,h=>absurd ((h y).2 (by simp)) (by simp)
 |x::l,[],_,_,h=>absurd ((h x).1 (by simp)) (by simp)
 |x::l,y::r,hl,hr,h=>by
  have a1:∀{z},z∈l->bytesBefore x z=true:=λhz=>List.rel_of_pairwise_cons hl hz
  have a2:∀{z},z∈r->bytesBefore y z=true:=λhz=>List.rel_of_pairwise_cons hr hz
  have e:x=y:=by
   rcases List.mem_cons.1 ((h x).1 (by simp))with e|e
   ·exact e
   ·rcases List.mem_cons.1 ((h y).2 (by simp))with e'|e'
    ·exact e'.symm
    ·have:=WideShapes.bytes_trans _ _ _ (a1 e') (a2 e)
     rw [WideAt.bytes_irrefl]at this;cases this
  subst e
  congr 1
  refine bY.ext (List.Pairwise.of_cons hl) (List.Pairwise.of_cons hr) λz=>⟨λhz=> ?_,λhz=> ?_⟩
  ·rcases List.mem_cons.1 ((h z).1 (by simp [hz]))with e|e
   ·subst e;have:=a1 hz;rw [WideAt.bytes_irrefl]at this;cases this
   ·exact e
  ·rcases List.mem_cons.1 ((h z).2 (by simp [hz]))with e|e
   ·subst e;have:=a2 hz;rw [WideAt.bytes_irrefl]at this;cases this
   exact e
def qB(n:Nm):List Nm->List Nm
 | []=> [n]
 |y::r=>if bytesBefore n y then n::y::r else y::qB n r
def jk(n:Nm)(ns:List Nm):List Nm:=qB n (ns.filter λx=> !(x==n))
theorem yH{n x:Nm}:∀{ns:List Nm},x∈qB n ns↔x=n\/x∈ns
 | []=>by simp [qB]
 |y::r=>by
  unfold qB
  split
  ·simp
  ·simp only [List.mem_cons,yH (ns:=r)]
   constructor
   ·rintro(h|h|h)<;>simp [h]
   ·rintro(h|h|h)<;>simp [h]
theorem jS:x∈jk n ns↔x=n\/x∈ns:=by
 unfold jk;rw [yH,List.mem_filter]
 constructor
 ·rintro(h|h)
  ·exact Or.inl h
  ·exact Or.inr h.1
 rintro(h|h)
 ·exact Or.inl h
 by_cases e:x=n
 ·exact Or.inl e
 exact Or.inr ⟨h,by simp [e]⟩
theorem bY.qB{n:Nm}:∀{ns:List Nm},bY ns->(∀x∈ns,x≠n)->bY (qB n ns)
 | [],_,_=>by simp [Go.Proofs.YtpmmjkiclngpmaaGreatDoor.qB,bY]
 |y::r,h,hn=>by
  have h1:∀{z},z∈r->bytesBefore y z=true:=λhz=>List.rel_of_pairwise_cons h hz
  unfold Go.Proofs.YtpmmjkiclngpmaaGreatDoor.qB
  split
  ·next hb=>exact List.Pairwise.cons (λz hz=>by
    rcases List.mem_cons.1 hz with rfl|hz
    ·exact hb
    ·exact WideShapes.bytes_trans _ _ _ hb (h1 hz)) h
  ·next hb=>
   refine List.Pairwise.cons (λz hz=> ?_) (bY.qB (List.Pairwise.of_cons h) λx hx=>hn x (by simp [hx]))
   rcases yH.1 hz with rfl|hz
   ·rcases WideAt.bytes_total y z (hn y (by simp))with h|h
    ·exact h
    ·exact absurd h hb
   ·exact h1 hz
theorem bY.jk(h:bY ns):bY (jk n ns):=
 bY.qB (List.Pairwise.sublist List.filter_sublist h) λx hx=>by
  have:=(List.mem_filter.1 hx).2;simpa using this
theorem I_(h:bY ns)(hn:n∈ns):jk n ns=ns:=
 bY.ext h.jk h λx=>by rw [jS];exact⟨λe=>e.elim (λe=>e▸hn) id,Or.inr⟩
theorem Eb{n:Nm}:∀{ns:List Nm},(qB n ns).length=ns.length+1
 | []=>rfl
 |y::r=>by
  unfold qB
  split
  ·rfl
  ·simp [Eb (ns:=r)]
theorem Nr(hn:n∉ns):jk n ns=qB n ns:=by
 unfold jk;rw [List.filter_eq_self.2];intro x hx;simp only [Bool.not_eq_eq_eq_not,Bool.not_true,beq_eq_false_iff_ne,ne_eq]
 exact λe=>hn (e▸hx)
theorem Ns:(jk n ns).length<=ns.length+1:=by
 unfold jk;rw [Eb];have:=List.length_filter_le (λx=> !(x==n)) ns;omega
def gV(ns:List Nm)(ov:Nm->Value):DataW Value:=.map (ns.map λn=>(.string n,.held (ov n)))
def uI(ov:Nm->Value)(n:Nm)(v:Value):Nm->Value:=λx=>if x=n then v else ov x
theorem Ba(ov:Nm->Value)(n:Nm)(v:Value):uI ov n v n=v:=if_pos rfl
theorem yI(ov:Nm->Value)(v:Value)(h:x≠n):uI ov n v x=ov x:=if_neg h
theorem Ec{f:Nm->Value}(h:∀x∈ns,f x=g x):gV ns f=gV ns g:=by
 unfold gV
 congr 1
 exact List.map_congr_left λx hx=>by rw [h x hx]
theorem lr(a b:Nm):Lit.sameKey (.string a) (.string b)=(a==b):=rfl
theorem Ko(ns:List Nm)(ov:Nm->Value)(n:Nm):(gV ns ov).del (.string n)=gV (ns.filter λx=> !(x==n)) ov:=by
 show DataW.map _=DataW.map _
 congr 1
 rw [List.filter_map]
 rfl
theorem Ed(ns:List Nm)(ov:Nm->Value)(n:Nm):DataW.insert (Lit.string n,DataW.held (ov n)) (ns.map λn=>(Lit.string n,DataW.held (ov n)))=(qB n ns).map λn=>(Lit.string n,DataW.held (ov n)):=by
 induction ns with
 |nil=>rfl
 |cons y r ih=>
  rw [List.map_cons];unfold DataW.insert qB;show(if bytesBefore n y=true then _ else _)=_
  split
  ·rfl
  ·rw [ih,List.map_cons]
theorem Bb(ns:List Nm)(ov:Nm->Value)(n:Nm)(v:Value):(gV ns ov).put (.string n) (.held v)=gV (jk n ns) (uI ov n v):=by
 have e1:gV ns ov=.map (ns.map λn=>(.string n,.held (ov n))):=rfl
 have e2:(ns.map λn=>(Lit.string n,DataW.held (ov n))).filter (λp=> !p.1.sameKey (.string n))=(ns.filter λx=> !(x==n)).map λx=>(Lit.string x,DataW.held (uI ov n v x)):=by
  rw [List.filter_map];show List.map _ (ns.filter λx=> !(x==n))=_
  refine List.map_congr_left λx hx=> ?_
  have:x≠n:=by simpa using (List.mem_filter.1 hx).2
  rw [yI _ _ this]
 show DataW.map (DataW.insert (Lit.string n,DataW.held v) ((ns.map λn=>(Lit.string n,DataW.held (ov n))).filter λp=> !p.1.sameKey (.string n)))=_;rw [e2];have:=Ed (ns.filter λx=> !(x==n)) (uI ov n v) n;rw [Ba]at this;rw [this]
 rfl
theorem Bc(ns:List Nm)(ov:Nm->Value)(n:Nm):has (gV ns ov) (.string n)=decide (n∈ns):=by
 show(ns.map λn=>(Lit.string n,DataW.held (ov n))).any (λp=>p.1.sameKey (.string n))=_;rw [List.any_map]
 induction ns with
 |nil=>simp
 |cons y r ih=>
  simp only [List.any_cons,ih,Function.comp,lr];rw [Bool.eq_iff_iff];simp only [Bool.or_eq_true,beq_iff_eq,decide_eq_true_eq,List.mem_cons]
  constructor<;>rintro(h|h)<;>first|exact Or.inl h.symm|exact Or.inr h
theorem uJ(ns:List Nm)(ov:Nm->Value)(n:Nm)(z:DataW Value):(gV ns ov).atKey (.string n) z=if n∈ns then .held (ov n)else z:=by
 unfold gV DataW.atKey;simp only
 induction ns with
 |nil=>simp
 |cons y r ih=>
  rw [List.map_cons,List.find?_cons]
  by_cases h:y=n
  ·subst h;simp [lr]
  ·simp only [lr,beq_eq_false_iff_ne.2 h]
   rw [ih];simp [Ne.symm h]
theorem tN(ns:List Nm)(ov:Nm->Value):Maps.size (gV ns ov)=ns.length:=by simp [gV,Maps.size]
variable {P:Program} {w w':World} {k:TypeId} {b:Nat} {ns:List Nm} {ov:Nm->Value}
def cV(P:Program)(w:World)(k:TypeId)(b:Nat)(ns:List Nm)(ov:Nm->Value):Prop:=w.ownsMap P k vT b ns.length (gV ns ov)
theorem cV.of{n:Nat}(h:w.ownsMap P k vT b n (gV ns ov)):cV P w k b ns ov:=by
 obtain⟨es,cl,hb,F,hs,hD⟩:=h;refine⟨es,cl,hb,F,?_,hD⟩;have:=congrArg Maps.size hD;rw [tN]at this;simp only [Maps.size,length_sorted,List.length_map,Array.length_toList]at this;omega
theorem cV.new(P:Program)(w:World)(k:TypeId)(ov:Nm->Value):cV P (w.alloc (.map #[] 0)) k w.heap.size [] ov:=World.ownsMap_made w P k vT
theorem cV.lt(h:cV P w k b ns ov):b<w.heap.size:=World.ownsMap.lt h
theorem cV.keep(h:cV P w k b ns ov)(hk:w'.heap[b]?=w.heap[b]?):cV P w' k b ns ov:=by
 obtain⟨es,cl,hb,r⟩:=h;exact⟨es,cl,hk.trans hb,r⟩
theorem cV.below(h:cV P w k b ns ov)(hb:Below w.heap.size w w'):cV P w' k b ns ov:=h.keep (hb.block b h.lt)
theorem cV.congr(h:cV P w k b ns ov)(hg:∀x∈ns,ov x=g x):cV P w k b ns g:=by
 unfold cV at*;rw [<-Ec hg];exact h
theorem cV.isMap(h:cV P w k b ns ov):∃es cl,w.heap[b]?=some (.map es cl):=by obtain⟨es,cl,hb,_⟩:=h;exact⟨_,_,hb⟩
theorem cV.rising(h:cV P w k b ns ov)(K:Keyed P k):bY ns:=by
 obtain⟨es,cl,hb,F,hs,hD⟩:=h;have h1:=Maps.sorted_sorted K.one _ (Maps.fit_keys F) (Maps.fit_apart K F)
 have h2:(es.toList.map (Go.WideElems.rg P k vT)).foldr DataW.insert []=ns.map λn=>(Lit.string n,DataW.held (ov n)):=by
  have:=hD;unfold gV at this
  injection this with this
  exact this.symm
 rw [h2,List.pairwise_map]at h1;exact h1
theorem cV.ar(h:cV P w k b ns ov)(K:Keyed P k){t e:TypeId}(ht:P.underlying t=some (.map k e))(hz:(zeroValue e).run P w=.ok z w)(hkey:keyOf P k key=some (.string n)):
  (Instr.lookup t (.map (some b)) key false).run P w=.ok (if n∈ns then ov n else z) w:=by
 obtain⟨v,ps,hrun,hv⟩:=World.ownsMap.lookup h K ht hz (zd:=.held z) (zp:= []) rfl hkey;have h1:=uH hv;rw [uJ]at h1;rw [hrun]
 split at h1
 ·next hn=>simp only [DataW.held.injEq]at h1;rw [if_pos hn,h1]
 next hn=>simp only [DataW.held.injEq]at h1;rw [if_neg hn,h1]
theorem cV.Nt(h:cV P w k b ns ov)(K:Keyed P k){t e:TypeId}(ht:P.underlying t=some (.map k e))(hz:(zeroValue e).run P w=.ok z w)(hkey:keyOf P k key=some (.string n)):
  (Instr.lookup t (.map (some b)) key true).run P w=.ok (.tuple #[if n∈ns then ov n else z,.bool (decide (n∈ns))]) w:=by
 obtain⟨v,ps,hrun,hv⟩:=World.ownsMap.look_ok h K ht hz (zd:=.held z) (zp:= []) rfl hkey;have h1:=uH hv;rw [uJ]at h1;rw [hrun,Bc]
 split at h1
 ·next hn=>simp only [DataW.held.injEq]at h1;rw [if_pos hn,h1]
 next hn=>simp only [DataW.held.injEq]at h1;rw [if_neg hn,h1]
theorem cV.len(h:cV P w k b ns ov){t e:TypeId}(ht:P.underlying t=some (.map k e))(ty:TypeId):(Builtin.len_ #[t] ty #[.map (some b)]).run P w=.ok (.int .i64 ns.length) w:=by
 have:=World.ownsMap.len h ht ty;rw [tN]at this;exact this
theorem pW(w:World){ops:Array Oper}{rest:List Oper}{o:Oper}{a:Act}{Q:Exit->Act->World->Prop}(hg:o.guard=none)(m x v:Operand)(t:TypeId)(hop:o.op=Op.mapUpdate t m x v)(k e:TypeId)(K:Keyed P k)(ht:P.underlying t=some (.map k e))(b:Nat)(ns:List Nm)(ov:Nm->Value)(hm:a.eval m=.map (some b))(hown:cV P w k b ns ov)(hn:ns.length<maxLen)(key val:Value)(n:Nm)(hx:a.eval x=key)(hv:a.eval v=val)(hkey:keyOf P k key=some (.string n))(hK:∀w',cV P w' k b (jk n ns) (uI ov n val)->w.grownBy w' (some b)->wpList P ops Q rest (a.put o.dst undef) w'):
  wpList P ops Q (o::rest) a w:=
 wpList_mapUpdate_own w hg m x v t hop k e K ht vT b ns.length (gV ns ov) hm hown hn key val (.string n) hx hv hkey (.held val) [] rfl λw' h1 h2=>hK w' (cV.of (by rw [Bb]at h1;exact h1)) h2
theorem cV.put(h:cV P w k b ns ov)(K:Keyed P k){t e:TypeId}(ht:P.underlying t=some (.map k e))(hn:ns.length<maxLen){key val:Value}(hkey:keyOf P k key=some (.string n)):
  ∃w',(Instr.mapUpdate t (.map (some b)) key val).run P w=.ok () w'/\cV P w' k b (jk n ns) (uI ov n val)/\w.grownBy w' (some b):=by
 obtain⟨w',hrun,h1,h2⟩:=World.ownsMap.update h K ht hn hkey (val:=val) (d:=.held val) (ps:= []) rfl;exact⟨w',hrun,cV.of (by rw [Bb]at h1;exact h1),h2⟩
theorem cV.drop(h:cV P w k b ns ov)(K:Keyed P k){t e:TypeId}(ht:P.underlying t=some (.map k e))(hkey:keyOf P k key=some (.string n))(ty:TypeId):
  ∃w',(Builtin.delete_ #[t,k] ty #[.map (some b),key]).run P w=.ok (.tuple #[]) w'/\cV P w' k b (ns.filter λx=> !(x==n)) ov/\w.mapTurned w' b:=by
 obtain⟨w',hrun,h1,h2⟩:=World.ownsMap.drop h K ht hkey ty;exact⟨w',hrun,cV.of (by rw [Ko]at h1;exact h1),h2⟩
theorem cV.clear(h:cV P w k b ns ov){t e:TypeId}(ht:P.underlying t=some (.map k e))(ty:TypeId)(g:Nm->Value):
  ∃w',(Builtin.clear_ #[t] ty #[.map (some b)]).run P w=.ok (.tuple #[]) w'/\cV P w' k b [] g/\w.mapTurned w' b:=by
 obtain⟨es,cl,hb,_⟩:=h;refine⟨setBlock w b (.map #[] cl),by simp [Builtin.clear_,run_underlying ht,MapKept.run_getObj_map hb,MapKept.run_setObj_map _ hb,Result.andThen,setBlock],⟨#[],cl,heap_setBlock_same hb _,⟨by simp,MapKept.stamped_empty _,by simp⟩,Nat.le_refl _,rfl⟩,⟨es,cl,_,_,hb,rfl⟩⟩
end Go.Proofs.YtpmmjkiclngpmaaGreatDoor
