/- YtpmmjkiclngpmaaGreatDoorB38 -/
import Derived.Test.YtpmmjkiclngpmaaGreatDoorB32
import Derived.Test.YtpmmjkiclngpmaaGreatDoorB34
import Derived.Test.YtpmmjkiclngpmaaGreatDoorB37
import Derived.Test.YtpmmjkiclngpmaaGreatDoorB35
set_option maxRecDepth 100000
set_option linter.unusedSimpArgs false
set_option linter.unusedVariables false
set_option maxHeartbeats 12800000
namespace Go.Proofs.YtpmmjkiclngpmaaGreatDoor
open Tryz
open Go.RowKit
variable{m:Md}{L:List Md}{tr:Nm->Option (Nat×Mod)}{fb lo:Nat}{s:qb}{p:SP}{w w':World}{md:Mod}{u:Us}{n nm:Nm}{E:Nm->Option Mod}{x:Option Ob}
structure ZI (o:Ob):Prop where
 un:∀u∈o.aeg,u.m.length<=100000
 ul:o.aeg.length<=100000000000
def curr(E:Nm->Option Mod)(m:Md):Bool:=match m.obj with|none=>false|some o=>o.aX==m.now&&o.aeg.all (mX E)
theorem EO(h:bY (aZ L))(hm:m∈L):lX L m.ag=m.now:=by unfold lX;rw [mj h hm];rfl
theorem AJ(h:cx w p s)(hf:dW lo w fb s.L tr)(m:Md)(hm:m∈s.L)(bp:∀o,m.obj=some o->ZI o):
  Calls prog 45 #[.pointer (some ⟨p.sb,0,none⟩),.map (some fb),.string ⟨m.ag.toArray⟩] w λe w'=>e=.returned (.bool (curr (aP s.L) m))/\Below w.heap.size w w':=by
 obtain⟨c0,c1,_,hl⟩:=h.field;have hsm:=h.small m hm
 have gO:m.ag.length<=maxLen:=by unfold maxLen;omega
 obtain⟨ov,zz,xM⟩:=h.mP;have hlk:=zz.Nt lL uO (zeroValue154 w) (nV gO);have VY:=j5 h.rising hm
 rcases EP:m.obj with _|o
 ·have VZ:m.ag∉haves s.L:=by rw [VY,EP];simp
  rw [if_neg VZ,decide_eq_false VZ]at hlk;have HV:=aa (show curr (aP s.L) m=false by simp [curr,EP]);rw [HV.o];clear h hf zz xM VY VZ bp EP
  go_enter func45,ntmps45
  go_wp2_with fail
  go_quiet (fail)
  go_wp2;go_ret;exact⟨rfl,((Below.refl _ _).alloc (Nat.le_refl _) _).trans ((bA _ nq).mono (by simp))⟩
 have kV:m.ag∈haves s.L:=by rw [VY,EP];rfl
 rw [if_pos kV,decide_eq_true kV]at hlk;obtain⟨fv,uv,hval,hfn,Ub⟩:=xM m hm o EP;rw [hval]at hlk;obtain⟨xs,Yj,_⟩:=hfn;obtain⟨fo,fc,se⟩:=ak Yj.1;obtain⟨uo,uc,wH⟩:=ak Ub.1;rw [se,wH]at hlk;have lK:lX s.L m.ag=m.now:=EO h.rising hm;have V_:m.ag∈aZ s.L:=List.mem_map.2 ⟨m,hm,rfl⟩;obtain⟨X,hX⟩:∃X,w.alloc (.cells #[.string ⟨o.aX.toArray⟩,.slice fo o.aR.length fc,.slice uo o.aeg.length uc] 154)=X:=⟨_,rfl⟩
 have qg:Below w.heap.size w X:=by rw [<-hX];exact(Below.refl _ _).alloc (Nat.le_refl _) _
 have RD:=aa qg
 have RN:∀q,(Instr.lookup 79 (.map (some p.mb)) (.string ⟨m.ag.toArray⟩) false).run prog (X.drewN q)=.ok (.agg #[.string ⟨m.now.toArray⟩]) (X.drewN q):=λq=>by
  have:=((h.below qg).below (bA X q)).g_.ar lL gI (zeroValue129 _) (nV gO);rw [if_pos V_]at this;unfold tR at this;rw [lK]at this;exact this
 have Dy:=Js
 by_cases het:o.aX=m.now
 ·have HV:=aa (show curr (aP s.L) m=o.aeg.all (mX (aP s.L)) by simp [curr,EP,het])
  rw [HV.o];rw [het]at hX hlk
  have hx0:X.cell? ⟨w.heap.size,0,none⟩=some (.string ⟨m.now.toArray⟩):=by rw [<-hX];simp
  have hx2:X.cell? ⟨w.heap.size,2,none⟩=some (.slice uo o.aeg.length uc):=by rw [<-hX];simp
  have VF:w.heap.size<X.heap.size:=by rw [<-hX];simp
  have y0:=(aC qg hl 0).trans c0
  have yl:p.sb<X.heap.size:=by have:=qg.size;omega
  have RV:=RN 1;rw [show X.drewN 1=X.drew from rfl]at RV;have hoo:=bp o EP;have hbD:Below w.heap.size w X.drew:=qg.drew;have Sl:=aa (Om (hf.below hbD) h.small (.slice uo o.aeg.length uc) o.aeg (by rw [<-wH];exact bE Ub.1 (λk _ l=>hbD.block k l)) hoo.un (by have:=hoo.ul;omega));have HX:=aa hX;clear h hf zz xM VY kV bp EP hval Yj Ub lK V_ qg se wH hX RN hbD hoo het;generalize o.aeg.all (mX (aP s.L))=R at*
  go_enter func45,ntmps45
  go_wp2_with fail
  rw [HX.o]
  go_region_with (go_at_call 74;go_must (refine Sl.o.mono ?_;rintro e w3 ⟨rfl,hb3⟩;have dy:=aa ((RD.o.drew).trans (hb3.mono (by show w.heap.size<=X.heap.size;omega)));clear hb3))
  all_goals
   (try go_wp2_with fail)
   go_ret;exact⟨rfl,dy.o⟩
 have HV:=aa (show curr (aP s.L) m=false by simp [curr,EP,het]);rw [HV.o]
 have hx0:X.cell? ⟨w.heap.size,0,none⟩=some (.string ⟨o.aX.toArray⟩):=by rw [<-hX];simp
 have VF:w.heap.size<X.heap.size:=by rw [<-hX];simp
 have y0:=(aC qg hl 0).trans c0
 have yl:p.sb<X.heap.size:=by have:=qg.size;omega
 have HX:=aa hX;clear h hf zz xM VY kV bp EP hval Yj Ub lK V_ qg se wH hX
 go_enter func45,ntmps45
 go_wp2_with fail
 rw [HX.o]
 go_quiet (fail)
 go_wp2;go_ret;exact⟨rfl,RD.o.trans ((bA _ nq).mono RD.o.size)⟩
def fZ(E:Nm->Option Mod)(md:Mod):List (Option Mod):=md.aq.map λi=>E i.ag
def ER(E:Nm->Option Mod)(md:Mod):List (Option Addr):=md.aq.map λi=>(E i.ag).map λ_=>(⟨0,0,none⟩:Addr)
def fI(E:Nm->Option Mod)(md:Mod):KS:=rj (qy md (fZ E md)) 700 md (ER E md)
def lS(nm:Nm)(E:Nm->Option Mod)(md:Mod):List CF×List Us:=f_ nm (zm nm md (fZ E md)) 700 md.aR (fI E md).lk
def Sm(E:Nm->Option Mod)(x:Nm×Nm):List UInt8:=fx (E x.1) x.2
def kC(nm:Nm)(E:Nm->Option Mod)(md:Mod):List Us:=lR (Sm E) ((lS nm E md).2.map fg++md.aq.map λi=>(i.ag,[]))
def ez(E:Nm->Option Mod)(m:Md):(Nat×Nat)×Option Ob:=
 match ir m.now with
 |none=>((4,(dC m.now).2.ai),none)
 |some md=>(((fI E md).aK,(fI E md).ai),if(fI E md).aK=0 then some ⟨m.now,(lS m.ag E md).1,kC m.ag E md⟩else none)
theorem AB.trees(h:AB 601 md):∀f∈md.aR,lV (λ_=>True) (700+1) f.br/\pd (700+1) f.br:=λf hf=>⟨(h.fs f hf).br.TK.mono (by omega),(h.fs f hf).br.leaf _⟩
theorem BB(h:u∈tV md (fZ E md) n):u.n=n/\u.s=Sm E (fg u)/\∃i∈md.aq,u.m=i.ag:=by
 unfold tV at h
 split at h
 ·cases h
 have key:∀(l:List (lu×Option Mod)),(∀x∈l,x.2=E x.1.ag/\x.1∈md.aq)->u∈mq n l->u.n=n/\u.s=Sm E (fg u)/\∃i∈md.aq,u.m=i.ag:=by
  intro l
  induction l with
  |nil=>intro _ hu;cases hu
  |cons x r ih=>
   intro hx hu;unfold mq at hu
   rcases List.mem_cons.1 hu with rfl|hu
   ·have:=hx x (by simp)
    exact⟨rfl,by show fx x.2 n=fx (E x.1.ag) n;rw [this.1],x.1,this.2,rfl⟩
   ·split at hu
    ·cases hu
    ·exact ih (λy hy=>hx y (by simp [hy])) hu
 refine key _ (λx hx=> ?_) h;obtain⟨j,hj,rfl⟩:=List.getElem_of_mem hx;rw [List.getElem_zip];refine⟨?_,List.getElem_mem _⟩;simp [fZ]
theorem Jx(bp:AB 601 md)(h:u∈(lS nm E md).2):(∃n,zy 700 md.aR n/\u∈tV md (fZ E md) n):=by
 unfold lS at h;rw [B9 bp.trees]at h
 rcases h with h|⟨n,hn,hu⟩
 ·unfold fI at h
  rw [EF bp.trees]at h;obtain⟨n,hn,hu⟩:=h;exact⟨n,hn,List.mem_of_mem_take hu⟩
 exact⟨n,hn,List.mem_of_mem_take hu⟩
def gB(n:Nm)(x:Option Ob)(L:List Md):List Md:=L.map λm=>if m.ag=n then {m with obj:=x}else m
theorem kM(n:Nm)(x:Option Ob)(L:List Md):aZ (gB n x L)=aZ L:=by
 unfold gB aZ;rw [List.map_map]
 refine List.map_congr_left λm _=> ?_
 show(if m.ag=n then({m with obj:=x}:Md)else m).ag=m.ag
 split<;>rfl
theorem uX(h:m∈gB n x L):∃m0∈L,m0.ag=m.ag/\m0.now=m.now/\((m.ag=n/\m.obj=x)\/(m.ag≠n/\m=m0)):=by
 unfold gB at h;obtain⟨m0,h0,rfl⟩:=List.mem_map.1 h
 by_cases e:m0.ag=n
 ·rw [if_pos e];exact⟨m0,h0,rfl,rfl,Or.inl ⟨e,rfl⟩⟩
 rw [if_neg e];exact⟨m0,h0,rfl,rfl,Or.inr ⟨e,rfl⟩⟩
theorem Le{z:Nm}:(getM (gB n x L) z).map (λm=>m.now)=(getM L z).map λm=>m.now:=by
 unfold getM gB
 induction L with
 |nil=>rfl
 |cons y r ih=>
  rw [List.map_cons,List.find?_cons,List.find?_cons]
  have e1:(if y.ag=n then({y with obj:=x}:Md)else y).ag=y.ag:=by split<;>rfl
  have e2:(if y.ag=n then({y with obj:=x}:Md)else y).now=y.now:=by split<;>rfl
  rw [e1]
  rcases (y.ag==z)with _|_
  ·exact ih
  ·simp only [Option.map_some,e2]
theorem zA(n:Nm)(x:Option Ob)(L:List Md)(z:Nm):lX (gB n x L) z=lX L z:=by
 unfold lX;rw [Le]
theorem mv(h:bY (aZ L)):bY (haves L):=by
 unfold haves;refine List.Pairwise.sublist ?_ h;exact List.Sublist.map _ List.filter_sublist
theorem xN(h:bY (aZ L))(n:Nm):haves (gB n none L)=(haves L).filter λx=> !(x==n):=by
 have hr:bY (aZ (gB n none L)):=by rw [kM];exact h
 refine bY.ext (mv hr) (List.Pairwise.sublist List.filter_sublist (mv h)) λz=> ?_
 rw [List.mem_filter]
 constructor
 ·intro hz
  obtain⟨m,hm,rfl,ho⟩:=oX hz
  obtain⟨m0,h0,e1,e2,⟨e3,e4⟩|⟨e3,e4⟩⟩:=uX hm
  ·rw [e4]at ho;cases ho
  ·subst e4
   exact⟨(j5 h h0).2 ho,by simpa using e3⟩
 rintro⟨hz,hne⟩;obtain⟨m,hm,rfl,ho⟩:=oX hz
 have Ka:m.ag≠n:=by simpa using hne
 exact(j5 hr (m:=m) (List.mem_map.2 ⟨m,hm,if_neg Ka⟩)).2 ho
theorem xO(h:bY (aZ L))(hn:n∈aZ L)(o:Ob):haves (gB n (some o) L)=jk n (haves L):=by
 have hr:bY (aZ (gB n (some o) L)):=by rw [kM];exact h
 refine bY.ext (mv hr) (mv h).jk λz=> ?_
 rw [jS]
 constructor
 ·intro hz
  obtain⟨m,hm,rfl,ho⟩:=oX hz
  obtain⟨m0,h0,e1,e2,⟨e3,e4⟩|⟨e3,e4⟩⟩:=uX hm
  ·exact Or.inl e3
  ·subst e4
   exact Or.inr ((j5 h h0).2 ho)
 rintro(rfl|hz)
 ·obtain⟨m,hm,e⟩:=List.mem_map.1 hn
  have Ye:({m with obj:=some o}:Md)∈gB z (some o) L:=List.mem_map.2 ⟨m,hm,if_pos e⟩;rw [<-e];rw [<-e]at Ye hr;exact(j5 hr Ye).2 rfl
 obtain⟨m,hm,rfl,ho⟩:=oX hz
 by_cases e:m.ag=n
 ·have Ye:({m with obj:=some o}:Md)∈gB n (some o) L:=List.mem_map.2 ⟨m,hm,if_pos e⟩
  exact(j5 hr Ye).2 rfl
 exact(j5 hr (m:=m) (List.mem_map.2 ⟨m,hm,if_neg e⟩)).2 ho
theorem Lg(n:Nm)(x y:Option Ob)(L:List Md):gB n y (gB n x L)=gB n y L:=by
 unfold gB;rw [List.map_map]
 refine List.map_congr_left λm _=> ?_
 by_cases e:m.ag=n
 ·simp [Function.comp,e]
 simp [Function.comp,e]
def BC(s:qb)(m:Md):qb:=⟨gB m.ag (ez (aP s.L) m).2 s.L,jk m.ag s.comp,s.vX⟩
theorem cx.Uc(h:cx w p s){ns:List Nm}(hf:ns.length<=8)(hm:cV prog w' 9 p.cb ns (λ_=> .agg #[]))(hg:w.grownBy w' (some p.cb)):
  bG p.own w w'/\cx w' p {s with comp:=ns}:=by
 have yi:=h.yM
 have hbl:∀k,k<w.heap.size->k≠p.cb->w'.heap[k]?=w.heap[k]?:=λk hk hne=>hg.block k hk (λe=>hne (by simpa using e))
 have fG:∀k,¬p.o k->k<w.heap.size->¬p.o k/\w'.heap[k]?=w.heap[k]?:=λk h1 h2=>⟨h1,hbl k h2 (λe=>h1 (Or.inl (Or.inr (Or.inr (Or.inr e)))))⟩
 refine⟨bG.mO hg (λk e=>Or.inl (Or.inr (Or.inr (Or.inr (by simpa using e.symm))))),?_,?_,?_,hm,h.n1,h.n2,h.n3,⟨h.ku.1,hf⟩,h.small⟩
 ·obtain⟨ip,a,b⟩:=h.blk
  exact⟨ip,(hbl _ (af a) yi.2.2).trans a,b.keep fG⟩
 ·exact h.g_.keep (hbl _ h.g_.lt h.n2)
 obtain⟨ov,a,b⟩:=h.mP;exact⟨ov,a.keep (hbl _ a.lt h.n3),λm hm o ho=>(b m hm o ho).keep fG⟩
theorem cx.ZJ(h:cx w p s)(n:Nm)(x:Option Ob){ov':Nm->Value}(hm:cV prog w' 9 p.ob (haves (gB n x s.L)) ov')(hg:w.grownBy w' (some p.ob))(xM:∀m∈s.L,m.ag≠n->∀o,m.obj=some o->A9 (λk=>¬p.o k) w (ov' m.ag) o)(hx:∀o,x=some o->A9 (λk=>¬p.o k) w (ov' n) o):
  bG p.own w w'/\cx w' p {s with L:=gB n x s.L}:=by
 have yi:=h.yM
 have hbl:∀k,k<w.heap.size->k≠p.ob->w'.heap[k]?=w.heap[k]?:=λk hk hne=>hg.block k hk (λe=>hne (by simpa using e))
 have fG:∀k,¬p.o k->k<w.heap.size->¬p.o k/\w'.heap[k]?=w.heap[k]?:=λk h1 h2=>⟨h1,hbl k h2 (λe=>h1 (Or.inl (Or.inr (Or.inr (Or.inl e)))))⟩
 refine⟨bG.mO hg (λk e=>Or.inl (Or.inr (Or.inr (Or.inl (by simpa using e.symm))))),?_,?_,⟨ov',hm,?_⟩,?_,h.n1,h.n2,h.n3,⟨?_,h.ku.2⟩,?_⟩
 ·obtain⟨ip,a,b⟩:=h.blk
  exact⟨ip,(hbl _ (af a) yi.2.1).trans a,b.keep fG⟩
 ·show cV _ _ _ _ (aZ (gB n x s.L)) (tR (gB n x s.L))
  rw [kM]
  exact(h.g_.keep (hbl _ h.g_.lt h.n1)).congr λz _=>by unfold tR;rw [zA]
 ·intro m hm o ho
  obtain⟨m0,h0,e1,e2,⟨e3,e4⟩|⟨e3,e4⟩⟩:=uX hm
  ·rw [e3];exact(hx o (by rw [<-e4];exact ho)).keep fG
  ·subst e4;exact(xM m h0 e3 o ho).keep fG
 ·exact h.comp.keep (hbl _ h.comp.lt h.n3.symm)
 ·show(gB n x s.L).length<=8
  unfold gB;rw [List.length_map];exact h.ku.1
 intro m hm;obtain⟨m0,h0,e1,e2,_⟩:=uX hm;have:=h.small m0 h0;rw [e1,e2]at this;exact this
theorem dW.V'(h:dW lo w fb L tr)(tI:∀k,p.own k->k<lo)(hb:bG p.own w w'):dW lo w' fb L tr:=h.keep λk hk hl=>hb.block k hk (λho=>by have:=tI k ho;omega)
theorem dW.trees(h:dW lo w fb L tr)(hs:∀m∈L,m.ag.length<=8/\m.now.length<=600){mb:Nat}(ht:tr n=some (mb,md))(iv:Value)(hb:Below w.heap.size w w')(b:Nat):
  nY 700 (λk=>k<w.heap.size) w.heap.size w' ⟨b,n,mb,iv,md.aq.map λi=>gy (tr i.ag)⟩ md (md.aq.map λi=>tr i.ag):=by
 have bp:=rq hs (n:=n) (md:=md) (by rw [<-h.is,ht];rfl);refine nY.below (w:=w) ⟨?_,?_,?_,?_,?_,?_,λk hk=>hk⟩ hb
 ·show(md.aq.map λi=>gy (tr i.ag))=_
  rw [List.map_map];rfl
 ·rw [List.length_map]
 ·rw [List.length_map];have:=bp.il;omega
 ·exact(h.may hs n _ ht).1
 ·exact⟨by have:=bp.fl;omega,λf hf=>by have:=(bp.fs f hf).pl;omega⟩
 intro x hx;obtain⟨i,_,rfl⟩:=List.mem_map.1 hx;exact h.may hs i.ag
theorem OC(h:dW lo w fb L tr)(md:Mod):((md.aq.map λi=>tr i.ag).map λx=>x.map Prod.snd)=fZ (aP L) md:=by
 unfold fZ;rw [List.map_map]
 exact List.map_congr_left λi _=>h.is i.ag
theorem Wa(h:dW lo w fb L tr)(md:Mod):rj (qy md (fZ (aP L) md)) 700 md (md.aq.map λi=>gy (tr i.ag))=fI (aP L) md:=by
 unfold fI;refine Hu (λn _=>⟨rfl,rfl⟩) ?_;unfold ER;rw [List.map_map,List.map_map]
 refine List.map_congr_left λi _=> ?_
 show(gy (tr i.ag)).isSome=((aP L i.ag).map λ_=>_).isSome;rw [<-h.is i.ag];unfold gy
 cases tr i.ag<;>rfl
theorem BD(bp:AB 601 md)(h0:(fI E md).aK=0):∀f∈md.aR,lV (tW md (fZ E md)) (700+1) f.br:=(Se bp.trees (by simp [ER]) h0).1
theorem OD(bp:AB 601 md):∀u∈(lS nm E md).2,u.s=Sm E (fg u):=λu hu=>by
 obtain⟨n,_,h⟩:=Jx bp hu;exact(BB h).2.1
theorem Jy(bp:AB 601 md):(fI E md).lk.length+1000*Am 700 md.aR<=8000000000:=by
 have h1:(fI E md).lk.length<=1000*Am 700 md.aR:=by
  unfold fI rj
  have key:∀(l:List iL) (s:KS),(gK (qy md (fZ E md)) 700 l s).lk.length<=s.lk.length+1000*Am 700 l:=by
   intro l
   induction l with
   |nil=>intro s;simp [gK,Am]
   |cons f r ih=>
    intro s;have a:=ih (o8 (qy md (fZ E md)) 700 f s);have b:=Jl (qy md (fZ E md)) 700 f s;show(gK _ 700 r (o8 _ 700 f s)).lk.length<=_
    have e:Am 700 (f::r)=sz (700+1) f.br+Am 700 r:=by unfold Am;rw [List.map_cons,List.sum_cons]
    rw [e];omega
  have:=key md.aR (ik (md.aR.map λf=>(f.ag,f.ai)) [] (iG (md.aq.zip (ER E md)) [] ⟨[],0,0,[]⟩));rw [wE,zj]at this;simpa using this
 have:=bp.ok.all;omega
theorem Jz(bp:AB 601 md):(lS nm E md).2.length<=8000000000:=by
 have key:∀(l:List iL) (lk:List Us),(f_ nm (zm nm md (fZ E md)) 700 l lk).2.length<=lk.length+1000*Am 700 l:=by
  intro l
  induction l with
  |nil=>intro s;simp [f_,Am]
  |cons f r ih=>
   intro lk;have a:=ih (dx (zm nm md (fZ E md)) 700 f lk).lk;have b:=B6 (zm nm md (fZ E md)) 700 f lk
   have e:Am 700 (f::r)=sz (700+1) f.br+Am 700 r:=by unfold Am;rw [List.map_cons,List.sum_cons]
   rw [e];show(f_ nm _ 700 r _).2.length<=_;omega
 have a:=key md.aR (fI E md).lk;have b:=Jy (E:=E) bp;unfold lS;omega
end Go.Proofs.YtpmmjkiclngpmaaGreatDoor
