/- YtpmmjkiclngpmaaGreatDoorB36 -/
import Derived.Test.YtpmmjkiclngpmaaGreatDoorB14
import Derived.Test.YtpmmjkiclngpmaaGreatDoorB15
set_option maxRecDepth 100000
set_option linter.unusedSimpArgs false
set_option linter.unusedVariables false
set_option maxHeartbeats 12800000
namespace Go.Proofs.YtpmmjkiclngpmaaGreatDoor
open Tryz
open Go.RowKit
variable{w a b:World}{l P:List (Nm×Nm)}{g cap:Nat}{sf:Nm×Nm->List UInt8}
theorem AH{P:Program}(w:World){ops:Array Oper}{rest:List Oper}{o:Oper}{a:Act}{Q:Exit->Act->World->Prop}(hg:o.guard=none)(m:Operand)(t:TypeId)(hop:o.op=Op.call {callee:=Callee.builtin Builtin.clear,args:=#[m],argTypes:=#[t]})(e:TypeId)(z:Value)(ht:P.underlying t=some (.slice e))(hv:∀w,(zeroValue e).run P w=.ok z w)(h1:∀v∈z.cells.toList,v.oneCell'=true)(b off n c:Nat)(hn:0<n)(hm:a.eval m=.slice (some ⟨b,off,none⟩) n c)(hc:∀j,j<n*z.cells.size->(w.cell? ⟨b,off+j,none⟩).isSome=true)(hf:∀j,j<n*z.cells.size->w.frozen? ⟨b,off+j,none⟩=false)(hK:∀vs,wpList P ops Q rest (a.put o.dst (.tuple #[])) (w.setCells b off vs)):
  wpList P ops Q (o::rest) a w:=by
 refine wpList_plain hg λK' hK'=> ?_
 have hlen:(Builtin.zeroCells z.cells n).toList.length=n*z.cells.size:=by simp [Builtin.zeroCells]
 have qV:∀v∈(Builtin.zeroCells z.cells n).toList,v.oneCell'=true:=by
  intro v hv';simp only [Builtin.zeroCells,Array.toList_map,List.mem_map,Array.toList_range,List.mem_range]at hv';obtain⟨i,hi,rfl⟩:=hv'
  have jR:0<z.cells.size:=by
   rcases Nat.eq_zero_or_pos z.cells.size with h|h
   ·rw [h]at hi;omega
   ·exact h
  have hlt:=Nat.mod_lt i jR;rw [getElem!_pos z.cells (i%z.cells.size) hlt];exact h1 _ (by simp)
 have hst:=run_storeCells_cells (P:=P) b off (Builtin.zeroCells z.cells n).toList 0 w (by rw [hlen];simpa using hc) (by rw [hlen];simpa using hf) qV;simp only [Nat.add_zero]at hst;obtain⟨m',rfl⟩:∃m',n=m'+1:=⟨n-1,by omega⟩;unfold Oper.wp;simp [execOp,hop,resolve,invoke,builtin,hm,Builtin.clear_,run_underlying ht,hv,hst,Result.andThen];exact hK' _ _ (hK _)
theorem jT.owns{lo:Nat}(h:jT sf g cap l w)(hg:lo<=g)(hc:l.length<=cap)(hm:cap<=maxLen):w.ownsRow lo 185 3 (.slice (some ⟨g,0,none⟩) l.length cap) l.length (dz sf l):=by
 obtain⟨aU,a,b,c⟩:=h.blk;exact⟨mE sf l,Or.inr ⟨g,cap,aU,rfl,hg,a,hc,hm,b,c⟩⟩
theorem jT.take{r:List (Nm×Nm)}(h:jT sf g cap (P++r) w):jT sf g cap P w:=by
 obtain⟨aU,a,b,c⟩:=h.blk;refine⟨aU,a,b,?_⟩;have:=congrArg (List.take (P.length*3)) c;rw [List.take_take,Nat.min_eq_left (by rw [List.length_append];omega),pX,List.take_append_of_le_length (by rw [mE];exact Nat.le_refl _)]at this;rw [this];exact List.take_of_length_le (by rw [mE];exact Nat.le_refl _)
def over(P l:List (Nm×Nm)):List (Nm×Nm):=P++l.drop P.length
theorem O6(h:P.length<=l.length):(over P l).length=l.length:=by simp [over];omega
theorem Jw(j:Nat)(hj:j<l.length)(hP:P.length<=j):(over P l)[j]?=some l[j]:=by
 unfold over;rw [List.getElem?_append_right hP,List.getElem?_drop,show P.length+(j-P.length)=j by omega,List.getElem?_eq_getElem hj]
theorem O7(h:P.length<l.length)(y:Nm×Nm):(over P l).set P.length y=over (P++ [y]) l:=by
 unfold over;rw [List.set_append_right _ _ (Nat.le_refl _),Nat.sub_self,List.drop_eq_getElem_cons h,List.set_cons_zero,List.append_assoc,List.length_append]
 rfl
theorem over_self(l:List (Nm×Nm))(k:Nat)(hk:k<=l.length):over (l.take k) l=l:=by
 unfold over;rw [List.length_take,Nat.min_eq_left hk,List.take_append_drop]
structure ei (g:Nat) (w w':World):Prop where
 os:w'.os=w.os
 tape:w'.tape=w.tape
 output:w'.output=w.output
 size:w.heap.size<=w'.heap.size
 block:∀k,k<w.heap.size->k≠g->w'.heap[k]?=w.heap[k]?
theorem ei.go{c:World}(h:ei g a b)(k:ei g b c):ei g a c:=⟨k.os.trans h.os,k.tape.trans h.tape,k.output.trans h.output,Nat.le_trans h.size k.size,λi hi hne=>(k.block i (Nat.lt_of_lt_of_le hi h.size) hne).trans (h.block i hi hne)⟩
theorem ei.of(h:Below a.heap.size a b):ei g a b:=⟨h.os,h.tape,h.output,h.size,λk hk _=>h.block k hk⟩
theorem ei.set(h:ei g a b)(o:Nat)(u:Value):ei g a (b.setCell ⟨g,o,none⟩ u):=h.go ⟨rfl,rfl,rfl,by simp [World.setCell],λk _ hne=>Below.heap_setCell b ⟨g,o,none⟩ u k hne⟩
theorem EK(sf:Nm×Nm->List UInt8)(w:World)(g cap:Nat)(l:List (Nm×Nm))(h:jT sf g cap l w)(hc:l.length<=cap)(hm:cap<=maxLen)(hl:l.length<=40000000000):
  Calls prog 123 #[.slice (some ⟨g,0,none⟩) l.length cap] w λe w'=>e=.returned (.slice (some ⟨g,0,none⟩) (bT l).length cap)/\jT sf g cap (bT l) w'/\ei g w w':=by
 have HR:=aa h;have hg:=h.lt;clear h
 by_cases h2:l.length<2
 ·have EL:(l.length:Int)<2:=by omega
  have HV:=aa (show bT l=l by
   rcases l with _|⟨x,_|⟨y,r⟩⟩
   ·rfl
   ·rfl
   ·simp at h2;omega)
  go_enter func123,ntmps123
  go_wp2;go_ret;rw [HV.o];exact⟨rfl,HR.o,ei.of (Below.refl _ _)⟩
 have EL:¬(l.length:Int)<2:=by omega
 go_enter func123,ntmps123
 go_wp2
 go_loopg [3] (l.length-1) (λn i wr=>∃k:Nat,1<=k/\k<=l.length/\n+k=l.length/\i=.int .i64 k/\Hy (bT (l.take k)=l.take k)/\Hy (Below w.heap.size w wr))
 case atStart=>exact⟨1,by omega,by omega,by omega,rfl,by show bT _=_;rcases l with _|⟨x,r⟩;rfl;rfl,Below.refl _ _⟩
 obtain⟨k,Rt,hk2,hn,rfl,HP,HB⟩:=hrel;have B4:=aa (HR.o.below HB.o);have hgr:=B4.o.lt
 by_cases hlt:k<l.length
 ·have eu:(k:Int)<(l.length:Int):=by omega
  obtain⟨c0,c1,c2⟩:=B4.o.at k hlt;obtain⟨p,rfl⟩:∃p,k=p+1:=⟨k-1,by omega⟩;obtain⟨d0,d1,d2⟩:=B4.o.at p (by omega);have heq:=rT sf l[p+1] l[p]
  have hgd:=λop a b=>Be sf op a b l[p+1] l[p]
  have hpi:IntKind.i64.wrap ((p:Int)+1-1)=(p:Int):=by rw [C1 _ (by omega) (by omega)];omega
  have oD:=aa (iT (l.take (p+1)) l[p+1]);have M7:=aa (td l p (by omega));have ou:=aa (List.take_succ_eq_append_getElem hlt)
  by_cases he:l[p+1]=l[p]
  ·rw [decide_eq_true he]at heq
   have nJ:=aa (show bT (l.take (p+1+1))=l.take (p+1) by rw [ou.o,oD.o,HP.o];unfold iR;rw [if_pos (by rw [<-HP.o,M7.o,he])])
   go_wp2_with fail
   go_quiet (fail)
   go_wp2;have cU:=aa (HB.o.trans ((bA wr nq).mono HB.o.size));have mY:=aa (HR.o.below cU.o);clear c0 c1 c2 d0 d1 d2 heq hgd he oD M7;generalize wr.drewN nq=wr2 at*
   go_loopg [3,5] (l.length-(p+1)-1) (λn s3 s5 wx=>∃(i:Nat) (P:List (Nm×Nm)),1<=i/\n+i+(p+1)=l.length/\s5=.int .i64 i/\s3=.int .i64 P.length/\P.length<p+1+i/\Hy (bT (l.take (p+1+i))=P)/\Hy (jT sf g cap (over P l) wx)/\Hy (ei g w wx))
   case atStart=>exact⟨1,l.take (p+1),by omega,by omega,rfl,by rw [List.length_take,Nat.min_eq_left (by omega)],by rw [List.length_take];omega,nJ.o,by show jT _ _ _ _ _;rw [over_self l (p+1) (by omega)];exact mY.o,ei.of cU.o⟩
   case round=>
    obtain⟨i,P,ur,hni,rfl,rfl,hPl,KM,QH,mG⟩:=hrel;have RT:=O6 (P:=P) (l:=l) (by omega);have hgx:=QH.o.lt;obtain⟨q,rfl⟩:∃q,i=q+1:=⟨i-1,by omega⟩
    by_cases Dz:p+1+(q+1)<l.length
    ·have ZF:((q+1:Nat):Int)<((l.length-(p+1):Nat):Int):=by omega
     obtain⟨c0,c1,c2⟩:=QH.o.at (p+1+(q+1)) (by omega);obtain⟨d0,d1,d2⟩:=QH.o.at (p+1+q) (by omega)
     have e1:(over P l)[p+1+(q+1)]'(by omega)=l[p+1+(q+1)]:=by
      have:=Jw (P:=P) (p+1+(q+1)) Dz (by omega);rw [List.getElem?_eq_getElem (by omega)]at this;simpa using this
     have e2:(over P l)[p+1+q]'(by omega)=l[p+1+q]:=by
      have:=Jw (P:=P) (l:=l) (p+1+q) (by omega) (by omega);rw [List.getElem?_eq_getElem (by omega)]at this;simpa using this
     rw [e1,show(p+1+(q+1))*3=(p+1)*3+(q+1)*3 by omega]at c0 c1 c2;rw [e2,show(p+1+q)*3=(p+1)*3+q*3 by omega]at d0 d1 d2;have heq:=rT sf l[p+1+(q+1)] l[p+1+q]
     have hgd:=λop a b=>Be sf op a b l[p+1+(q+1)] l[p+1+q]
     have Ua:IntKind.i64.wrap ((q:Int)+1-1)=(q:Int):=by rw [C1 _ (by omega) (by omega)];omega
     have oD:=aa (iT (l.take (p+1+(q+1))) l[p+1+(q+1)]);have M7:=aa (td l (p+1+q) (by omega));have ou:=aa (List.take_succ_eq_append_getElem Dz);clear e1 e2
     by_cases he:l[p+1+(q+1)]=l[p+1+q]
     ·rw [decide_eq_true he]at heq
      have kW:=aa (show bT (l.take (p+1+(q+1+1)))=P by
       rw [show p+1+(q+1+1)=p+1+(q+1)+1 by omega,ou.o,oD.o,KM.o];unfold iR;have:=M7.o;rw [show p+1+q+1=p+1+(q+1) by omega,KM.o]at this
       rw [if_pos (by rw [this,he])])
      go_wp2_with fail
      go_quiet (fail)
      go_wp2;have dy:=aa (bA wr nq)
      go_roundg (gk-1)
      case measure=>omega
      case rel=>exact⟨q+1+1,P,by omega,by omega,by first|rfl|go_num,rfl,by omega,kW.o,QH.o.below dy.o,mG.o.go (ei.of dy.o)⟩
     ·rw [decide_eq_false he]at heq
      have kW:=aa (show bT (l.take (p+1+(q+1+1)))=P++ [l[p+1+(q+1)]] by
       rw [show p+1+(q+1+1)=p+1+(q+1)+1 by omega,ou.o,oD.o,KM.o];unfold iR;have:=M7.o;rw [show p+1+q+1=p+1+(q+1) by omega,KM.o]at this
       rw [if_neg (by rw [this];intro e;exact he (by simpa using e.symm))])
      have hPn:P.length<l.length:=by omega
      have adl:(P.length:Int)<(l.length:Int):=by omega
      obtain⟨f0,f1,f2⟩:=QH.o.at P.length (by omega);have ff:=QH.o.free;have pz:=aa (λ(wy:World) (hy:jT sf g cap (over P l) wy)=>hy.set (by omega) P.length (by omega) l[p+1+(q+1)]);have HOs:=aa (O7 hPn l[p+1+(q+1)])
      go_wp2_with fail
      go_quiet (fail)
      go_wp2;have dy:=aa (bA wr nq)
      go_roundg (gk-1)
      case measure=>omega
      case rel=>
       refine⟨q+1+1,P++ [l[p+1+(q+1)]],by omega,by omega,by first|rfl|go_num,by first|rfl|(simp;done)|go_num,by simp;omega,kW.o,?_,(((mG.o.go (ei.of dy.o)).set _ _).set _ _).set _ _⟩
       show jT _ _ _ _ _;rw [<-HOs.o];exact pz.o _ (QH.o.below dy.o)
    ·have ZF:¬((q+1:Nat):Int)<((l.length-(p+1):Nat):Int):=by omega
     have hPn:P.length<l.length:=by omega
     have adm:P.length<=l.length:=by omega
     have HV:=aa (show bT l=P by have:=KM.o;rw [List.take_of_length_le (by omega)]at this;exact this);obtain⟨aU,a1,a2,a3⟩:=QH.o.blk;have Ji:=aa a1;have G9:=aa a2
     have hzz:∀j,j<(l.length-P.length)*3->(wr.cell? ⟨g,P.length*3+j,none⟩).isSome=true:=λj hj=>by
      have:l.length*3<=cap*3:=Nat.mul_le_mul_right 3 hc;rw [ae Ji.o,Array.getElem?_eq_getElem (by rw [G9.o];omega)]
      rfl
     have HZ:=aa hzz;have HF:=aa QH.o.free;clear a1 a2 a3 hzz
     go_wp2_with (refine AH _ rfl _ 152 rfl 185 (.agg #[.string ⟨#[]⟩,.string ⟨#[]⟩,.string ⟨#[]⟩]) underlying152 zeroValue185 ?_ g (P.length*3) (l.length-P.length) (cap-P.length) ?_ rfl ?_ ?_ ?_)
     ·first|rfl|(intro v hv;simp [Value.cells]at hv;subst hv;rfl)
     ·omega
     ·first|exact HZ.o|(simpa using HZ.o)
     ·exact λj _=>HF.o _
     ·intro vs
      obtain⟨cur',b1,b2,b3⟩:=yK (w:=wr) vs (P.length*3) aU wr Ji.o
      have HRy:=aa (show jT sf g cap P (wr.setCells g (P.length*3) vs)from⟨cur',b1,b2.trans G9.o,by
       obtain⟨ZG,q1,q2,q3⟩:=(QH.o.take).blk
       have e:ZG=aU:=by rw [Ji.o]at q1;simpa using q1.symm
       subst e;rw [<-q3]
       apply List.ext_getElem?
       intro i;rw [List.getElem?_take,List.getElem?_take]
       split
       ·next hi=>simpa using b3 i hi
       ·rfl⟩)
      have pL:=aa (show ei g w (wr.setCells g (P.length*3) vs)from mG.o.go ⟨(ie (b:=g) (k:=g+1) (by omega) vs _ wr).2.2.1,(ie (b:=g) (k:=g+1) (by omega) vs _ wr).2.2.2.1,(ie (b:=g) (k:=g+1) (by omega) vs _ wr).2.2.2.2,by rw [(ie (b:=g) (k:=g+1) (by omega) vs _ wr).2.1];exact Nat.le_refl _,λk _ hne=>(ie hne vs _ wr).1⟩);clear b1 b2 b3;generalize wr.setCells g (P.length*3) vs=wz at*;go_wp2;go_ret;rw [HV.o];exact⟨rfl,HRy.o,pL.o⟩
  ·rw [decide_eq_false he]at heq
   have nJ:=aa (show bT (l.take (p+1+1))=l.take (p+1+1) by
    rw [ou.o,oD.o,HP.o];unfold iR;rw [if_neg (by rw [<-HP.o,M7.o];intro e;exact he (by simpa using e.symm))])
   go_wp2_with fail
   go_quiet (fail)
   go_wp2;have cU:=aa (HB.o.trans ((bA wr nq).mono HB.o.size))
   go_roundg (gk-1)
   case measure=>omega
   case rel=>exact⟨p+1+1,by omega,by omega,by omega,by first|rfl|go_num,nJ.o,cU.o⟩
 have D6:k=l.length:=by omega
 have HV:=aa (show bT l=l by have:=HP.o;rw [List.take_of_length_le (by omega)]at this;exact this)
 have eu:¬(k:Int)<(l.length:Int):=by omega
 go_wp2;go_ret;rw [HV.o];exact⟨rfl,B4.o,ei.of HB.o⟩
end Go.Proofs.YtpmmjkiclngpmaaGreatDoor
