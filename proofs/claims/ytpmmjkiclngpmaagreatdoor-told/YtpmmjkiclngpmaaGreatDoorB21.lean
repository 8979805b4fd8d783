/- YtpmmjkiclngpmaaGreatDoorB21 -/
import Derived.Test.YtpmmjkiclngpmaaGreatDoorB20
import Derived.Test.YtpmmjkiclngpmaaGreatDoorB19
import Derived.Test.YtpmmjkiclngpmaaGreatDoorB04
set_option maxRecDepth 100000
set_option linter.unusedSimpArgs false
set_option linter.unusedVariables false
set_option maxHeartbeats 12800000
namespace Go.Proofs.YtpmmjkiclngpmaaGreatDoor
open Tryz
open Go.RowKit
variable{u v pv:Value}{b o size n base:Nat}{w w':World}{xs:List Value}{ws:List Wd}{S S':Nat->Prop}{ps:List sL}
structure iL where
 ag:List UInt8
 ai:Nat
 gW:Bool
 ay:List sL
 result:Nat
 br:Ex
variable{fs:List iL}
def d_(f:iL)(pv bv:Value):List Value:= [.string ⟨f.ag.toArray⟩,.int .i64 f.ai,.bool f.gW,pv,.int .i64 f.result,.int .i64 f.br.aL,.int .i64 f.br.ai,.string ⟨f.br.ag.toArray⟩,.int .i64 f.br.value,bv]
def C6(f:iL)(pv bv:Value):Value:=.agg #[.string ⟨f.ag.toArray⟩,.int .i64 f.ai,.bool f.gW,pv,.int .i64 f.result,.int .i64 f.br.aL,.int .i64 f.br.ai,.string ⟨f.br.ag.toArray⟩,.int .i64 f.br.value,bv]
def gw(ws:List Wd)(ex:PS->Ex×PS)(st:PS):iL×PS:=
 let s2:=(st.a_ ws [112,117,98]).au ws [102,110]
 let s3:=s2.bH ws
 let ps:=eI ws s3
 let s5:=ps.2.au ws [58]
 let s6:=(s5.dQ ws).au ws [61]
 let b:=ex s6
 (⟨(s2.cK ws).aX,(s2.cK ws).ai,st.aN ws [[112,117,98]],ps.1,s5.eF ws,b.1⟩,b.2.au ws [59])
theorem fu{k:Nat}{x:Obj}(hk:k≠b)(h:w.heap[k]?=some x):(w.setCell ⟨b,o,none⟩ u).heap[k]?=some x:=(Below.heap_setCell _ _ _ _ hk).trans h
theorem bK{e:TypeId}(h:w.ownsRow base e size v n xs)(hb:b<base):(w.setCell ⟨b,o,none⟩ u).ownsRow base e size v n xs:=
 aM h (λg hg=>Below.heap_setCell _ _ _ _ (by have:=(aQ h g hg).1;show g≠b;omega))
theorem bW{pb:Nat}{e:TypeId}(h:w.ownsRow base e size v n xs)(hb:eh pb w w')(hp:pb<base):w'.ownsRow base e size v n xs:=
 aM h (λg hg=>hb.block g (aQ h g hg).2 (by have:=(aQ h g hg).1;omega))
theorem Ok.NJ{P:Pl}{st:PS}{w0:World}(h:Ok P ws w0 st w)(b:Nat)(hb:w0.heap.size<=b)(c0 c1 c2 c3 c4 c5 c6 c7 c8 c9:Value):
  Ok P ws w0 st ((((((((((w.setCell ⟨b,0,none⟩ c0).setCell ⟨b,1,none⟩ c1).setCell ⟨b,2,none⟩ c2).setCell ⟨b,3,none⟩ c3).setCell ⟨b,4,none⟩ c4).setCell ⟨b,5,none⟩ c5).setCell ⟨b,6,none⟩ c6).setCell ⟨b,7,none⟩ c7).setCell ⟨b,8,none⟩ c8).setCell ⟨b,9,none⟩ c9):=
 (((((((((h.set b 0 c0 hb).set b 1 c1 hb).set b 2 c2 hb).set b 3 c3 hb).set b 4 c4 hb).set b 5 c5 hb).set b 6 c6 hb).set b 7 c7 hb).set b 8 c8 hb).set b 9 c9 hb
theorem bg.NJ{es:List Ex}(h:bg S w pv es)(b:Nat)(hb:¬S b)(c0 c1 c2 c3 c4 c5 c6 c7 c8 c9:Value):
  bg S ((((((((((w.setCell ⟨b,0,none⟩ c0).setCell ⟨b,1,none⟩ c1).setCell ⟨b,2,none⟩ c2).setCell ⟨b,3,none⟩ c3).setCell ⟨b,4,none⟩ c4).setCell ⟨b,5,none⟩ c5).setCell ⟨b,6,none⟩ c6).setCell ⟨b,7,none⟩ c7).setCell ⟨b,8,none⟩ c8).setCell ⟨b,9,none⟩ c9) pv es:=
 (((((((((h.set b 0 c0 hb).set b 1 c1 hb).set b 2 c2 hb).set b 3 c3 hb).set b 4 c4 hb).set b 5 c5 hb).set b 6 c6 hb).set b 7 c7 hb).set b 8 c8 hb).set b 9 c9 hb
theorem GX{e:TypeId}(h:w.ownsRow base e size v n xs)(hb:b<base)(c0 c1 c2 c3 c4 c5 c6 c7 c8 c9:Value):
  World.ownsRow ((((((((((w.setCell ⟨b,0,none⟩ c0).setCell ⟨b,1,none⟩ c1).setCell ⟨b,2,none⟩ c2).setCell ⟨b,3,none⟩ c3).setCell ⟨b,4,none⟩ c4).setCell ⟨b,5,none⟩ c5).setCell ⟨b,6,none⟩ c6).setCell ⟨b,7,none⟩ c7).setCell ⟨b,8,none⟩ c8).setCell ⟨b,9,none⟩ c9) base e size v n xs:=
 bK (bK (bK (bK (bK (bK (bK (bK (bK (bK h hb) hb) hb) hb) hb) hb) hb) hb) hb) hb
theorem C7(P:Pl)(ws:List Wd)(ex:PS->Ex×PS)(hR:Reads 208 ws P ws.length ex)(cT:∀s:PS,s.i+1=ws.length->(s.aU ws).aL=0)(st:PS)(w:World)(hp:jJ P ws st w):
  Calls prog 158 #[.pointer (some ⟨P.pb,0,none⟩)] w λe w'=>∃po pn pc qo qn qc,e=.returned (C6 (gw ws ex st).1 (.slice po pn pc) (.slice qo qn qc))/\Ok P ws w (gw ws ex st).2 w'/\
   w'.ownsRow (w.heap.size+1) 301 3 (.slice po pn pc) (gw ws ex st).1.ay.length ((gw ws ex st).1.ay.flatMap gJ)/\bg (λk=>w.heap.size+1<=k) w' (.slice qo qn qc) (gw ws ex st).1.br.aw/\
   ((st.a_ ws [112,117,98]).au ws [102,110]).i<=(gw ws ex st).2.i:=by
 have h1:=af hp.blk;have HQ:=aa (Ok.refl hp);have HR:=aa hR;have hZ:=aa cT;clear hp hR cT
 go_enter func158,ntmps158
 go_wp2_with fail
 refine(fP P ws st _ (by exact(HQ.o.alloc _).cz) [112,117,98]).mono ?_;rintro e w1 ⟨rfl,hb⟩;have eo:=aa ((HQ.o.alloc _).go hb);have qM:=aa ((hb.1.block w.heap.size (by simp) (by omega)).trans (aF w _));have hs1:=hb.1.size;simp at hs1;clear hb
 go_wp2_with fail
 refine(cJ P ws (st.a_ ws [112,117,98]) _ (by exact(eo.o.alloc _).cz) [102,110]).mono ?_;rintro e w2 ⟨rfl,hb⟩;have et:=aa ((eo.o.alloc _).go hb);have iI:=aa ((hb.1.block w.heap.size (by simp;omega) (by omega)).trans (aI qM.o _));have XT:=aa ((hb.1.block w1.heap.size (by simp) (by omega)).trans (aF w1 _));have hs2:=hb.1.size;have hl2:=hb.2.lt;simp at hs2;clear hb
 go_wp2_with fail
 refine(uA P ws ((st.a_ ws [112,117,98]).au ws [102,110]) _ (by exact et.o.cz)).mono ?_;rintro e w3 ⟨rfl,bp⟩;have oJ:=aa (et.o.trans bp);have rS:=aa ((bp.but.block _ (af iI.o) (by omega)).trans iI.o);have yU:=aa ((bp.but.block _ (af XT.o) (by omega)).trans XT.o);have hs3:=bp.size;have iY:=bp.cz.lt;have hg3:=PS.oU (ws:=ws) hl2;clear bp;generalize YT:(st.a_ ws [112,117,98]).au ws [102,110]=s2 at*;have kg:=aa YT;clear YT;unfold ed;have l0:=ae yU.o 0;have l1:=ae yU.o 1;have l2:=ae yU.o 2;have l3:=ae yU.o 3;have l4:=ae yU.o 4;have l5:=ae yU.o 5;have l6:=ae yU.o 6;have l7:=ae yU.o 7;have l8:=ae yU.o 8;have l9:=ae yU.o 9;have lf:=aj yU.o;have ls:=af yU.o;simp at l0 l1 l2 l3 l4 l5 l6 l7 l8 l9;go_wp2
 go_region
 all_goals go_wp2_with fail
 have YU:=aa ((((oJ.o.set w1.heap.size 0 (.string ⟨(s2.cK ws).aX.toArray⟩) (by omega)).set w1.heap.size 1 (.int .i64 (s2.cK ws).ai) (by omega)).alloc (.cells #[.int .i64 (s2.cK ws).aL,.string ⟨(s2.cK ws).aX.toArray⟩,.int .i64 (s2.cK ws).ai] 274)).drew);refine(NI P ws hZ.o (s2.bH ws) _ (by exact YU.o.cz)).mono ?_;rintro e w4 ⟨po,pn,pc,rfl,bp,how,dG⟩;have ot:=aa (YU.o.trans bp);have UU:=aa ((bp.but.block w.heap.size (by simp;omega) (by omega)).trans (aI (fu (by omega) (fu (by omega) rS.o)) _));have K8:=aa ((bp.but.block w1.heap.size (by simp;omega) (by omega)).trans (aI (ax (ax yU.o 0 _) 1 _) _));have A8:=aa (jz (base':=w3.heap.size) how (by simp));have rV:=aa dG;have mC:=bp.size;simp at mC;have hl4:=bp.cz.lt;clear bp how dG l0 l1 l2 l3 l4 l5 l6 l7 l8 l9 lf ls;generalize YV:eI ws (s2.bH ws)=ps at*;have HPs:=aa YV;clear YV;have rR:=PS.bQ (ws:=ws) [58] hl4;have l0:=ae K8.o 0;have l1:=ae K8.o 1;have l2:=ae K8.o 2;have l3:=ae K8.o 3;have l4:=ae K8.o 4;have l5:=ae K8.o 5;have l6:=ae K8.o 6;have l7:=ae K8.o 7;have l8:=ae K8.o 8;have l9:=ae K8.o 9;have lf:=aj K8.o;have ls:=af K8.o;simp at l0 l1 l2 l3 l4 l5 l6 l7 l8 l9
 go_wp2_with fail
 refine(cJ P ws ps.2 _ (by exact(ot.o.set w1.heap.size 3 _ (by omega)).cz) [58]).mono ?_;rintro e w5 ⟨rfl,hb⟩;have Ai:=aa ((ot.o.set w1.heap.size 3 _ (by omega)).go hb);have UW:=aa ((hb.1.block w.heap.size (by simp;omega) (by omega)).trans (fu (by omega) UU.o));have HL5:=aa ((hb.1.block w1.heap.size (by simp;omega) (by omega)).trans (ax K8.o 3 _));have Jc:=aa (bW (bK A8.o (by omega)) hb.1 (by omega));have hs5:=hb.1.size;simp at hs5;have XM:=hb.2.lt;clear hb l0 l1 l2 l3 l4 l5 l6 l7 l8 l9 lf ls;have Gp:=PS.uP (ws:=ws) XM
 go_wp2_with fail
 refine(uB P ws (ps.2.au ws [58]) _ (by exact Ai.o.cz)).mono ?_;rintro e w6 ⟨rfl,bp⟩;have Cx:=aa (Ai.o.trans bp);have DR:=aa ((bp.but.block w.heap.size (by omega) (by omega)).trans UW.o);have K9:=aa ((bp.but.block w1.heap.size (by omega) (by omega)).trans HL5.o);have N0:=aa (bW Jc.o bp.but (by omega));have pK:=bp.size;have oL:=bp.cz.lt;clear bp;have KA:=PS.bQ (ws:=ws) [61] oL;have l0:=ae K9.o 0;have l1:=ae K9.o 1;have l2:=ae K9.o 2;have l3:=ae K9.o 3;have l4:=ae K9.o 4;have l5:=ae K9.o 5;have l6:=ae K9.o 6;have l7:=ae K9.o 7;have l8:=ae K9.o 8;have l9:=ae K9.o 9;have lf:=aj K9.o;have ls:=af K9.o;simp at l0 l1 l2 l3 l4 l5 l6 l7 l8 l9
 go_wp2_with fail
 refine(cJ P ws ((ps.2.au ws [58]).dQ ws) _ (by exact(Cx.o.set w1.heap.size 4 _ (by omega)).cz) [61]).mono ?_;rintro e w7 ⟨rfl,hb⟩;have HO7:=aa ((Cx.o.set w1.heap.size 4 _ (by omega)).go hb);have HZ7:=aa ((hb.1.block w.heap.size (by simp;omega) (by omega)).trans (fu (by omega) DR.o));have YW:=aa ((hb.1.block w1.heap.size (by simp;omega) (by omega)).trans (ax K9.o 4 _));have XR:=aa (bW (bK N0.o (by omega)) hb.1 (by omega));have hs7:=hb.1.size;simp at hs7;have YG:=hb.2.lt;clear hb l0 l1 l2 l3 l4 l5 l6 l7 l8 l9 lf ls
 go_wp2_with fail
 refine(HR.o (((ps.2.au ws [58]).dQ ws).au ws [61]) _ (by exact HO7.o.cz) (by simp only [PS.rem];omega)).mono ?_;rintro e w8 ⟨qv,rfl,bp,cO,dG⟩;obtain⟨qo,qn,qc,rfl⟩:=cO.shape;have HO8:=aa (HO7.o.trans bp);have HZ8:=aa ((bp.but.block w.heap.size (by omega) (by omega)).trans HZ7.o);have GY:=aa ((bp.but.block w1.heap.size (by omega) (by omega)).trans YW.o);have Vk:=aa (bW XR.o bp.but (by omega));have HP8:=aa (cO.mono (S':=λk=>w3.heap.size<=k) (λk h _=>by omega));have Jg:=aa dG;have hs8:=bp.size;have hl8:=bp.cz.lt;clear bp cO dG;generalize sG:ex (((ps.2.au ws [58]).dQ ws).au ws [61])=bd at*;have pZ:=aa sG;clear sG;have hg9:=PS.bQ (ws:=ws) [59] hl8;have l0:=ae GY.o 0;have l1:=ae GY.o 1;have l2:=ae GY.o 2;have l3:=ae GY.o 3;have l4:=ae GY.o 4;have l5:=ae GY.o 5;have l6:=ae GY.o 6;have l7:=ae GY.o 7;have l8:=ae GY.o 8;have l9:=ae GY.o 9;have lf:=aj GY.o;have ls:=af GY.o;simp at l0 l1 l2 l3 l4 l5 l6 l7 l8 l9;unfold bw
 go_wp2_with fail
 have YX:=aa (((((HO8.o.set w1.heap.size 5 (.int .i64 bd.1.aL) (by omega)).set w1.heap.size 6 (.int .i64 bd.1.ai) (by omega)).set w1.heap.size 7 (.string ⟨bd.1.ag.toArray⟩) (by omega)).set w1.heap.size 8 (.int .i64 bd.1.value) (by omega)).set w1.heap.size 9 (.slice qo qn qc) (by omega));refine(cJ P ws bd.2 _ (by exact YX.o.cz) [59]).mono ?_;rintro e w9 ⟨rfl,hb⟩;have HO9:=aa (YX.o.go hb);have Mx:=aa ((hb.1.block w.heap.size (by simp;omega) (by omega)).trans (fu (by omega) (fu (by omega) (fu (by omega) (fu (by omega) (fu (by omega) HZ8.o))))));have My:=aa ((hb.1.block w1.heap.size (by simp;omega) (by omega)).trans (ax (ax (ax (ax (ax GY.o 5 _) 6 _) 7 _) 8 _) 9 _));have XU:=aa (bW (bK (bK (bK (bK (bK Vk.o (by omega)) (by omega)) (by omega)) (by omega)) (by omega)) hb.1 (by omega));have HP9:=aa ((((((HP8.o.set w1.heap.size 5 (.int .i64 bd.1.aL) (by omega)).set w1.heap.size 6 (.int .i64 bd.1.ai) (by omega)).set w1.heap.size 7 (.string ⟨bd.1.ag.toArray⟩) (by omega)).set w1.heap.size 8 (.int .i64 bd.1.value) (by omega)).set w1.heap.size 9 (.slice qo qn qc) (by omega)).but (S':=λk=>w3.heap.size<=k) hb.1 (λk h _=>⟨h,by omega⟩));clear hb l0 l1 l2 l3 l4 l5 l6 l7 l8 l9 lf ls;have l0:=ae My.o 0;have l1:=ae My.o 1;have l2:=ae My.o 2;have l3:=ae My.o 3;have l4:=ae My.o 4;have l5:=ae My.o 5;have l6:=ae My.o 6;have l7:=ae My.o 7;have l8:=ae My.o 8;have l9:=ae My.o 9;have lf:=aj My.o;have ls:=af My.o;simp at l0 l1 l2 l3 l4 l5 l6 l7 l8 l9;have z0:=ae Mx.o 0;have z1:=ae Mx.o 1;have z2:=ae Mx.o 2;have z3:=ae Mx.o 3;have z4:=ae Mx.o 4;have z5:=ae Mx.o 5;have z6:=ae Mx.o 6;have z7:=ae Mx.o 7
 have z8:=ae Mx.o 8;have z9:=ae Mx.o 9;have zf:=aj Mx.o;have zs:=af Mx.o;simp at z0 z1 z2 z3 z4 z5 z6 z7 z8 z9;go_wp2
 have hE:gw ws ex st=(⟨(s2.cK ws).aX,(s2.cK ws).ai,st.aN ws [[112,117,98]],ps.1,(ps.2.au ws [58]).eF ws,bd.1⟩,bd.2.au ws [59]):=by simp only [gw,kg.o,HPs.o,pZ.o]
 rw [hE]
 refine bodyPost_ret (v:=C6 ⟨(s2.cK ws).aX,(s2.cK ws).ai,st.aN ws [[112,117,98]],ps.1,(ps.2.au ws [58]).eF ws,bd.1⟩ (.slice po pn pc) (.slice qo qn qc)) (by simp [results,results158,go_sem,z0,z1,z2,z3,z4,z5,z6,z7,z8,z9,zs,C6]) rfl
  ⟨po,pn,pc,qo,qn,qc,rfl,HO9.o.NJ _ (Nat.le_refl _) _ _ _ _ _ _ _ _ _ _,jz (GX XU.o (by omega) _ _ _ _ _ _ _ _ _ _) (by omega),(HP9.o.NJ _ (by omega) _ _ _ _ _ _ _ _ _ _).mono (λk h _=>by omega),?_⟩
 rw [kg.o];exact Nat.le_trans hg3 (Nat.le_trans rV.o (Nat.le_trans rR (Nat.le_trans Gp (Nat.le_trans KA (Nat.le_trans Jg.o hg9)))))
theorem sM{P:Program}(w:World){ops:Array Oper}{rest:List Oper}{o:Oper}{a:Act}{Q:Exit->Act->World->Prop}(hg:o.guard=none)(s x:Operand)(t:TypeId)(hop:o.op=Op.call {callee:=Callee.builtin Builtin.append,args:=#[s,x],argTypes:=#[t,t]})(base:Nat)(e:TypeId)(i:TypeInfo)(z:Value)(size bytes:Nat)(h1:P.underlying t=some (.slice e))(h2:P.info? e=some i)(h3:i.zero=some z)(h4:i.size=size)(h5:i.bytes=bytes)(h6:z.cells.size=size)(h7:0<size)(v:Value)(n:Nat)(xs:List Value)(hs:a.eval s=v)(hown:w.ownsRow base e size v n xs)(ad:Addr)(m c:Nat)(news:List Value)(hx:a.eval x=.slice (some ad) m c)(hn:news.length=m*size)(hc:∀j u,news[j]?=some u->w.cell? (ad.add j)=some u)(h1c:∀u∈news,u.oneCell'=true)(hm:0<m)(b1:n+m<=maxLen)(b2:(n+m)*bytes<=140737488355328)(hbase:base<=w.heap.size)(hK:∀g' cap' w',w'.ownsRow base e size (.slice (some ⟨g',0,none⟩) (n+m) cap') (n+m) (xs++news)->w.grownBy w' v.ownBlock->(v.ownBlock=some g'\/w.heap.size<=g')->wpList P ops Q rest (a.put o.dst (.slice (some ⟨g',0,none⟩) (n+m) cap')) w'):
  wpList P ops Q (o::rest) a w:=by
 rcases hown.2 with⟨rfl,rfl⟩|⟨g0,lH,aU,rfl,hb0,aed,vJ,hcm,hcs,iX⟩
 ·have hx0:xs= []:=List.eq_nil_of_length_eq_zero (by have:=hown.1;simpa using this)
  subst hx0;refine wpList_append_grows w hg s x t hop e i z size bytes h1 h2 h3 h4 h5 h6 h7 none 0 0 [] hs (λ_=>⟨rfl,rfl⟩) (by simp) (λb hb=>by cases hb) ad m c news hx hn hc h1c (by omega) b1 b2 ?_;intro v' w' r1 r2
  rcases r1.2 with⟨hv',h0⟩|⟨g',cap',cur',hv',hb',MR⟩
  ·omega
  ·subst hv'
   exact hK g' cap' w' (jz r1 hbase) (yy r2 _) (Or.inr hb')
 exact ji w hg s x t hop base e i z size bytes h1 h2 h3 h4 h5 h6 h7 g0 n lH xs hs hown ad m c news hx hn hc h1c b1 b2 hbase
  (λg' cap' w' r1 r2 r3=>hK g' cap' w' r1 r2 (r3.elim (λe=>Or.inl (by rw [e];rfl)) Or.inr))
def o5(S:Nat->Prop)(w:World)(v:Value)(ps:List sL):Prop:=
 (v=.slice none 0 0/\ps= [])\/∃g cap aU,v=.slice (some ⟨g,0,none⟩) ps.length cap/\S g/\w.heap[g]?=some (.cells aU 301 (0,0))/\ps.length<=cap/\aU.toList.take (ps.length*3)=ps.flatMap gJ
theorem o5.RE(h:w.ownsRow base 301 3 v ps.length (ps.flatMap gJ))(hS:∀k,base<=k->k<w.heap.size->S k):o5 S w v ps:=by
 rcases h.2 with⟨hv,h0⟩|⟨g,cap,aU,hv,hb,hc,hn,_,_,ht⟩
 ·exact Or.inl ⟨hv,List.eq_nil_of_length_eq_zero h0⟩
 exact Or.inr ⟨g,cap,aU,hv,hS g hb (af hc),hc,hn,ht⟩
theorem o5.keep(h:o5 S w v ps)(hk:∀k,S k->k<w.heap.size->S' k/\w'.heap[k]?=w.heap[k]?):o5 S' w' v ps:=by
 rcases h with h|⟨g,cap,aU,hv,hs,hc,hr⟩
 ·exact Or.inl h
 have:=hk g hs (af hc);exact Or.inr ⟨g,cap,aU,hv,this.1,this.2.trans hc,hr⟩
def C8(S:Nat->Prop)(w:World)(xs:List Value)(fs:List iL):Prop:=
 ∀j,(h:j<fs.length)->∃pv bv,(xs.drop (j*10)).take 10=d_ fs[j] pv bv/\o5 S w pv fs[j].ay/\bg S w bv fs[j].br.aw
theorem C8.keep(h:C8 S w xs fs)(hk:∀k,S k->k<w.heap.size->S' k/\w'.heap[k]?=w.heap[k]?):C8 S' w' xs fs:=
 λj hj=>by obtain⟨pv,bv,a,b,c⟩:=h j hj;exact⟨pv,bv,a,b.keep hk,c.keep hk⟩
theorem C8.snoc(h:C8 S w xs fs)(hl:xs.length=fs.length*10){x:iL}{bv:Value}(hp:o5 S w pv x.ay)(hb:bg S w bv x.br.aw):
  C8 S w (xs++d_ x pv bv) (fs++ [x]):=by
 intro j hj
 by_cases e:j<fs.length
 ·obtain⟨pj,bj,a,b⟩:=h j e
  refine⟨pj,bj,?_,?_⟩
  ·rw [List.drop_append_of_le_length (by omega),List.take_append_of_le_length (by simp;omega),a,List.getElem_append_left e]
  ·rw [List.getElem_append_left e];exact b
 have e':j=fs.length:=by simp at hj;omega
 subst e';refine⟨pv,bv,?_,?_⟩
 ·rw [<-hl,List.drop_left]
  simp [d_]
 simpa using ⟨hp,hb⟩
theorem NK:(prog.info? 233).map (λi=>(i.zero,i.size,i.bytes))=some (some (.agg #[.string ⟨#[]⟩,.int .i64 0,.bool false,.slice none 0 0,.int .i64 0,.int .i64 0,.int .i64 0,.string ⟨#[]⟩,.int .i64 0,.slice none 0 0]),10,128):=by kernel_rfl
def dp(ws:List Wd)(ex:PS->Ex×PS):Nat->PS->List iL×PS
 |0,st=>([],st)
 |n+1,st=>if st.aN ws [[112,117,98],[102,110]]then((gw ws ex st).1::(dp ws ex n (gw ws ex st).2).1,(dp ws ex n (gw ws ex st).2).2)else([],st)
theorem xb{s:PS}(h:s.aN ws [[112,117,98],[102,110]]=true)(hs:s.i+1<ws.length):s.i+1<=((s.a_ ws [112,117,98]).au ws [102,110]).i:=by
 rcases h1:s.aN ws [[112,117,98]]with _|_
 ·have h2:s.aN ws [[102,110]]=true:=by
   simp only [PS.aN,Bool.and_eq_true,List.contains_cons,List.contains_nil,Bool.or_false]at h h1⊢
   rcases ht:((s.aU ws).aX== [112,117,98])with _|_
   ·rw [ht]at h;simpa using h
   ·simp [ht,h.1]at h1
  simp only [PS.a_,PS.au,h1,h2,if_true,Bool.false_eq_true,if_false,PS.next];omega
 simp only [PS.a_,h1,if_true];have:=PS.bQ (ws:=ws) (st:=s.next ws) [102,110] (by simp only [PS.next];omega);simp only [PS.next]at this⊢;omega
theorem NL(P:Pl)(ws:List Wd)(ex:PS->Ex×PS)(hR:Reads 208 ws P ws.length ex)(cT:∀s:PS,s.i+1=ws.length->(s.aU ws).aL=0)(st:PS)(w:World)(hp:jJ P ws st w)(b:Nat)(hb0:w.cell? ⟨b,0,none⟩=some (.string ⟨[112,117,98].toArray⟩))(hb1:w.cell? ⟨b,1,none⟩=some (.string ⟨[102,110].toArray⟩))(oP:b<w.heap.size)(DM:b≠P.pb):
  Calls prog 157 #[.pointer (some ⟨P.pb,0,none⟩),.func (.func 158) #[.pointer (some ⟨P.pb,0,none⟩)] #[],.slice (some ⟨b,0,none⟩) 2 2] w λe w'=>
   ∃v xs,e=.returned v/\Ok P ws w (dp ws ex ws.length st).2 w'/\w'.ownsRow w.heap.size 233 10 v (dp ws ex ws.length st).1.length xs/\C8 (λk=>w.heap.size<=k) w' xs (dp ws ex ws.length st).1:=by
 have h1:=af hp.blk;have hsm:=hp.small;have hl0:=hp.lt;have HQ:=aa (Ok.refl hp);have HR:=aa hR;have hZ:=aa cT;have DN:=aa hb0;have nJ:=aa hb1;clear hp cT hb0 hb1 hR;obtain⟨i0,hi,hz0,hz1,hz2⟩:=info_parts NK
 go_enter func157,ntmps157
 go_wp2
 go_loopg [7] ws.length (λn v wr=>∃(tl:List iL) (s:PS) (xs:List Value),Hy (dp ws ex ws.length st=(tl++(dp ws ex n s).1,(dp ws ex n s).2))/\s.rem ws<n/\tl.length+n<=ws.length/\Hy (Ok P ws w s wr)/\
   Hy (wr.ownsRow w.heap.size 233 10 v tl.length xs)/\Hy (C8 (λk=>w.heap.size<=k/\v.ownBlock≠some k) wr xs tl))
 case atStart=>exact⟨[],st,[],rfl,by simp only [PS.rem];omega,by simp,HQ.o,World.ownsRow_nil _ _ _ _,λj hj=>by simp at hj⟩
 obtain⟨tl,s,xs,HC,jh,Ay,HO,Cv,YY⟩:=hrel;have hlt:=HO.o.cz.lt;have Cu:=HO.o.size
 rcases hat:s.aN ws [[112,117,98],[102,110]]with _|_
 ·have oK:=aa (show dp ws ex ws.length st=(tl,s) by
   rw [HC.o]
   cases gk with
   |zero=>omega
   |succ n=>simp [dp,hat])
  go_wp2_with fail
  refine(lG P ws s _ (by exact HO.o.cz) b [112,117,98] [102,110] (by exact(HO.o.but.cell oP DM 0).trans DN.o) (by exact(HO.o.but.cell oP DM 1).trans nJ.o) (by omega)).mono ?_;rintro e w2 ⟨rfl,hb⟩;rw [hat];have et:=aa (HO.o.below hb);have jF:=aa (aM Cv.o (w':=w2) (λk e=>hb.block k (aQ Cv.o k e).2));have GZ:=aa (YY.o.keep (S':=λk=>w.heap.size<=k) (w':=w2) (λk h1 h2=>⟨h1.1,hb.block k h2⟩));clear hb;go_wp2;go_ret;rw [oK.o];exact⟨_,xs,rfl,et.o,jF.o,GZ.o⟩
 have Cw:=PS.bX hZ.o hat hlt;have Bl:=xb hat Cw
 go_wp2_with fail
 refine(lG P ws s _ (by exact HO.o.cz) b [112,117,98] [102,110] (by exact(HO.o.but.cell oP DM 0).trans DN.o) (by exact(HO.o.but.cell oP DM 1).trans nJ.o) (by omega)).mono ?_;rintro e w2 ⟨rfl,hb⟩;rw [hat];have et:=aa (HO.o.below hb);have jF:=aa (aM Cv.o (w':=w2) (λk e=>hb.block k (aQ Cv.o k e).2));have GZ:=aa (YY.o.keep (S':=λk=>w.heap.size<=k/\u7.ownBlock≠some k) (w':=w2) (λk h1 h2=>⟨h1,hb.block k h2⟩));have hs2:=hb.size;clear hb
 go_wp2_with fail
 refine(C7 P ws ex HR.o hZ.o s _ (by exact et.o.cz)).mono ?_;rintro e w3 ⟨po,pn,pc,qo,qn,qc,rfl,bp,YZ,uC,yx⟩;have oJ:=aa (et.o.trans bp);have qz:=aa (aM jF.o (w':=w3) (λk e=>bp.but.block k (aQ jF.o k e).2 (by have:=(aQ jF.o k e).1;omega)));have NM:=aa (GZ.o.keep (S':=λk=>w.heap.size<=k/\u7.ownBlock≠some k) (w':=w3) (λk h1 h2=>⟨h1,bp.but.block k h2 (by omega)⟩));have oM:=aa (λk e=>(aQ jF.o k e).2);have abv:=aa (o5.RE (S:=λk=>w.heap.size<=k/\u7.ownBlock≠some k) YZ (λk h _=>⟨by omega,λe=>by have:=oM.o k e;omega⟩));have abw:=aa (uC.mono (S':=λk=>w.heap.size<=k/\u7.ownBlock≠some k) (λk h _=>⟨by omega,λe=>by have:=oM.o k e;omega⟩));have sI:=aa yx;have hs3:=oJ.o.size;generalize hr3:gw ws ex s=r3 at*;have Ki:=aa hr3;clear bp YZ uC yx hr3;unfold C6
 go_wp2_with (at_builtin;refine sM _ rfl _ _ 216 rfl w.heap.size 233 i0 (.agg #[.string ⟨#[]⟩,.int .i64 0,.bool false,.slice none 0 0,.int .i64 0,.int .i64 0,.int .i64 0,.string ⟨#[]⟩,.int .i64 0,.slice none 0 0]) 10 128 underlying216 hi hz0 hz1 hz2 rfl (by decide) _ _ _ rfl (qz.o.alloc _) ⟨w3.heap.size,0,none⟩ 1 1 (d_ r3.1 (.slice po pn pc) (.slice qo qn qc)) rfl rfl ?c1 ?c2 (by decide) ?c3 ?c4 ?c5 ?_)
 case c1=>
  intro j u hj
  match j,hj with
  |0,hj=>simp [d_]at hj;subst hj;simp [Addr.add]
  |1,hj=>simp [d_]at hj;subst hj;simp [Addr.add]
  |2,hj=>simp [d_]at hj;subst hj;simp [Addr.add]
  |3,hj=>simp [d_]at hj;subst hj;simp [Addr.add]
  |4,hj=>simp [d_]at hj;subst hj;simp [Addr.add]
  |5,hj=>simp [d_]at hj;subst hj;simp [Addr.add]
  |6,hj=>simp [d_]at hj;subst hj;simp [Addr.add]
  |7,hj=>simp [d_]at hj;subst hj;simp [Addr.add]
  |8,hj=>simp [d_]at hj;subst hj;simp [Addr.add]
  |9,hj=>simp [d_]at hj;subst hj;simp [Addr.add]
 case c2=>intro u hu;simp [d_]at hu;rcases hu with rfl|rfl|rfl|rfl|rfl|rfl|rfl|rfl|rfl|rfl<;>rfl
 case c3=>unfold maxLen;omega
 case c4=>omega
 case c5=>simp;omega
 intro g' cap' w4 hown' aB aJ;have ot:=aa ((oJ.o.alloc _).NG aB (λg e=>(aQ qz.o g e).1))
 have xZ:∀k,(w.heap.size<=k/\u7.ownBlock≠some k)->k<w3.heap.size->(w.heap.size<=k/\Value.ownBlock (.slice (some ⟨g',0,none⟩) (tl.length+1) cap')≠some k)/\w4.heap[k]?=w3.heap[k]?:=by
  intro k h1 h2;refine⟨⟨h1.1,?_⟩,(aB.block k (by simp;omega) (λe=>h1.2 e.symm)).trans (Below.heap_alloc _ _ _ h2)⟩;simp only [Value.ownBlock,ne_eq,Option.some.injEq];intro e
  rcases aJ with hw|hw
  ·exact h1.2 (by rw [hw,e])
  ·(try simp at hw);omega
 have AA:=aa ((NM.o.snoc (by have:=qz.o.1;exact this) abv.o abw.o).keep (w':=w4) xZ);have mh:=aa hown';clear aB hown' aJ xZ;go_wp2
 go_roundg (gk-1)
 case measure=>omega
 case rel=>
  refine⟨tl++ [r3.1],r3.2,xs++d_ r3.1 (.slice po pn pc) (.slice qo qn qc),?_,?_,?_,ot.o,?_,?_⟩
  ·show dp ws ex ws.length st=_
   rw [HC.o]
   cases gk with
   |zero=>omega
   |succ n=>simp [dp,hat,Ki.o]
  ·have:=sI.o;simp only [PS.rem]at jh⊢;omega
  ·simp;omega
  ·show w4.ownsRow _ _ _ _ _ _
   have:=mh.o;simpa using this
  ·exact AA.o
structure Mod where
 aq:List lu
 aR:List iL
def mR(ws:List Wd)(ex:PS->Ex×PS)(st:PS):Mod×PS:=
  (⟨(ee ws ws.length st).1,(dp ws ex ws.length (ee ws ws.length st).2).1⟩,
   if((dp ws ex ws.length (ee ws ws.length st).2).2.aU ws).aL=0 then(dp ws ex ws.length (ee ws ws.length st).2).2 else(dp ws ex ws.length (ee ws ws.length st).2).2.fail ws)
def kx(lo:Nat)(w:World)(mb:Nat)(m:Mod):Prop:=
 ∃iv fv xs,w.heap[mb]?=some (.cells #[iv,fv] 218 (0,0))/\w.ownsRow lo 220 2 iv m.aq.length (m.aq.flatMap dI)/\
  w.ownsRow lo 233 10 fv m.aR.length xs/\C8 (λk=>lo<=k) w xs m.aR
theorem kx.keep{lo:Nat}{mb:Nat}{m:Mod}(h:kx lo w mb m)(hk:∀k,k<w.heap.size->(k=mb\/lo<=k)->w'.heap[k]?=w.heap[k]?):kx lo w' mb m:=by
 obtain⟨iv,fv,xs,a,b,c,d⟩:=h;exact⟨iv,fv,xs,(hk mb (af a) (Or.inl rfl)).trans a,aM b (λg e=>hk g (aQ b g e).2 (Or.inr (aQ b g e).1)),aM c (λg e=>hk g (aQ c g e).2 (Or.inr (aQ c g e).1)),d.keep (λk h1 h2=>⟨h1,hk k h2 (Or.inr h1)⟩)⟩
theorem qW{a0 a1:Value}{e:TypeId}{f:Nat×Nat}(h:w.heap[b]?=some (.cells #[a0,a1] e f))(u:Value):
  (w.setCell ⟨b,0,none⟩ u).heap[b]?=some (.cells #[u,a1] e f)/\(w.setCell ⟨b,1,none⟩ u).heap[b]?=some (.cells #[a0,u] e f):=
 ⟨ax h 0 u,ax h 1 u⟩
theorem El(hb:w.heap.size=b)(c:Array Value)(e:TypeId)(o:Nat):(w.alloc (.cells c e)).cell? ⟨b,o,none⟩=c[o]?:=by
 subst hb;exact ae (aF _ _) o
theorem G_(P:Pl)(ws:List Wd)(ex:PS->Ex×PS)(hR:Reads 208 ws P ws.length ex)(cT:∀s:PS,s.i+1=ws.length->(s.aU ws).aL=0)(st:PS)(w:World)(hp:jJ P ws st w):
  Calls prog 106 #[.pointer (some ⟨P.pb,0,none⟩)] w λe w'=>e=.returned (.pointer (some ⟨w.heap.size,0,none⟩))/\Ok P ws w (mR ws ex st).2 w'/\kx (w.heap.size+1) w' w.heap.size (mR ws ex st).1:=by
 have h1:=af hp.blk;have HQ:=aa (Ok.refl hp);have HR:=aa hR;have hZ:=aa cT;clear hp hR cT;have fw0:=Cp
 go_enter func106,ntmps106
 go_wp2_with fail
 refine(NH P ws hZ.o st _ (by exact((HQ.o.alloc _).alloc _).cz) (w.heap.size+1) (by simp) (by simp) (by omega)).mono ?_;rintro e w1 ⟨iv,rfl,bp,how⟩;obtain⟨io,iN,ic,rfl⟩:=yS how;have eo:=aa (((HQ.o.alloc _).alloc _).trans bp);have XP:=aa ((bp.but.block w.heap.size (by simp;omega) (by omega)).trans (aI (aF w _) _));have qE:=aa (jz (base':=w.heap.size+1) how (by simp));have hs1:=bp.size;simp at hs1;clear bp how;generalize hi:ee ws ws.length st=ii at*;have HII:=aa hi;clear hi;have m0:=ae XP.o 0;have mf:=aj XP.o;have ms:=af XP.o;simp at m0
 go_wp2_with fail
 refine(NL P ws ex HR.o hZ.o ii.2 _ (by exact((eo.o.set w.heap.size 0 _ (Nat.le_refl _)).alloc _).cz) w1.heap.size (by exact El (by simp) _ _ 0) (by exact El (by simp) _ _ 1) (by simp) (by omega)).mono ?_;rintro e w2 ⟨fv,xs,rfl,bp,how,hfu⟩;obtain⟨fo,fN,fc,rfl⟩:=yS how;have et:=aa (((eo.o.set w.heap.size 0 _ (Nat.le_refl _)).alloc _).trans bp);have Em:=aa ((bp.but.block w.heap.size (by simp;omega) (by omega)).trans (aI (qW XP.o _).1 _));have Vr:=aa (bW (aM (bK (o:=0) (u:=.slice io iN ic) qE.o (by omega)) (λg e=>Below.heap_alloc _ _ _ (aQ (bK (o:=0) (u:=.slice io iN ic) qE.o (by omega)) g e).2)) bp.but (by omega));have oK:=aa (jz (base':=w.heap.size+1) how (by simp;omega));have Jd:=aa (hfu.keep (S':=λk=>w.heap.size+1<=k) (w':=w2) (λk h _=>⟨by simp at h;omega,rfl⟩));have hs2:=bp.size;have hl2:=bp.cz.lt;simp at hs2;clear bp how hfu;generalize hf:dp ws ex ws.length ii.2=ff at*;have HFF:=aa hf;clear hf;have k1:=ae Em.o 1;have kf:=aj Em.o;have ks:=af Em.o;simp at k1
 go_wp2_with fail
 have Y_:=aa (et.o.set w.heap.size 1 (.slice fo fN fc) (Nat.le_refl _));refine(dm P ws ff.2 _ (by exact Y_.o.cz)).mono ?_;rintro e w3 ⟨rfl,hb⟩;have oJ:=aa (Y_.o.below hb);have Dx:=aa ((hb.block w.heap.size (by simp;omega)).trans (qW Em.o _).2)
 have HMod:=aa (show kx (w.heap.size+1) w3 w.heap.size ⟨ii.1,ff.1⟩from⟨_,_,xs,Dx.o,
  aM (bK (o:=1) (u:=.slice fo fN fc) Vr.o (by omega)) (λg e=>hb.block g (by have:=(aQ Vr.o g e).2;simp;omega)),
  aM (bK (o:=1) (u:=.slice fo fN fc) oK.o (by omega)) (λg e=>hb.block g (by have:=(aQ oK.o g e).2;simp;omega)),
  Jd.o.keep (λk h1 h2=>⟨h1,(hb.block k (by simp;omega)).trans (Below.heap_setCell _ _ _ _ (by show k≠w.heap.size;omega))⟩)⟩)
 clear hb;unfold ed
 rcases hk:(((ff.2.aU ws).aL:Int) !=0)with _|_
 ·have gZ:(ff.2.aU ws).aL=0:=by simp at hk;omega
  have HE:=aa (show mR ws ex st=(⟨ii.1,ff.1⟩,ff.2) by simp [mR,HII.o,HFF.o,gZ]);go_wp2;go_ret;rw [HE.o];exact⟨rfl,oJ.o,HMod.o⟩
 have gZ:¬(ff.2.aU ws).aL=0:=by simp at hk;omega
 have HE:=aa (show mR ws ex st=(⟨ii.1,ff.1⟩,ff.2.fail ws) by simp [mR,HII.o,HFF.o,gZ])
 go_wp2_with fail
 refine(uz P ws ff.2 _ (by exact oJ.o.cz)).mono ?_;rintro e w4 ⟨rfl,hb⟩;have ot:=aa (oJ.o.go hb);have Y':=aa (HMod.o.keep (w':=w4) (λk hk tI=>hb.1.block k hk (by omega)));clear hb;go_wp2;go_ret;rw [HE.o];exact⟨rfl,ot.o,Y'.o⟩
end Go.Proofs.YtpmmjkiclngpmaaGreatDoor
