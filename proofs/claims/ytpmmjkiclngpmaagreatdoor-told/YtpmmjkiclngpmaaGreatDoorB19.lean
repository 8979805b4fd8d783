/- YtpmmjkiclngpmaaGreatDoorB19 -/
import Derived.Test.YtpmmjkiclngpmaaGreatDoorB03
set_option maxRecDepth 100000
set_option linter.unusedSimpArgs false
set_option linter.unusedVariables false
set_option maxHeartbeats 12800000
namespace Go.Proofs.YtpmmjkiclngpmaaGreatDoor
open Tryz
open Go.RowKit
variable{xs:List Value}{v:Value}{size n base:Nat}{w:World}
structure lu where
 ag:List UInt8
 ai:Nat
def dI(p:lu):List Value:= [.string ⟨p.ag.toArray⟩,.int .i64 p.ai]
def C5(p:lu):Value:=.agg #[.string ⟨p.ag.toArray⟩,.int .i64 p.ai]
def mQ(ws:List Wd)(st:PS):lu×PS:=
 (⟨((st.au ws [117,115,101]).cK ws).aX,((st.au ws [117,115,101]).cK ws).ai⟩,((st.au ws [117,115,101]).bH ws).au ws [59])
theorem yR(P:Pl)(ws:List Wd)(st:PS)(w:World)(hp:jJ P ws st w):
  Calls prog 156 #[.pointer (some ⟨P.pb,0,none⟩)] w λe w'=>e=.returned (C5 (mQ ws st).1)/\Ok P ws w (mQ ws st).2 w'/\(st.au ws [117,115,101]).i<=(mQ ws st).2.i:=by
 have h1:=af hp.blk;have HQ:=aa (Ok.refl hp);clear hp
 go_enter func156,ntmps156
 go_wp2_with fail
 refine(cJ P ws st _ (by exact(HQ.o.alloc _).cz) [117,115,101]).mono ?_;rintro e w1 ⟨rfl,hb⟩;have eo:=aa ((HQ.o.alloc _).go hb);have qM:=aa ((hb.1.block w.heap.size (by simp) (by omega)).trans (aF w _));have hs1:=hb.1.size;have oT:=hb.2.lt;simp at hs1;clear hb
 go_wp2_with fail
 refine(uA P ws (st.au ws [117,115,101]) _ (by exact eo.o.cz)).mono ?_;rintro e w2 ⟨rfl,bp⟩;have et:=aa (eo.o.trans bp);have iI:=aa ((bp.but.block _ (af qM.o) (by omega)).trans qM.o);have hs2:=bp.size;have hl2:=bp.cz.lt;have hg2:=PS.oU (ws:=ws) oT;clear bp;unfold ed
 go_wp2_with fail
 refine(cJ P ws ((st.au ws [117,115,101]).bH ws) _ (by exact(et.o.alloc _).cz) [59]).mono ?_;rintro e w3 ⟨rfl,hb⟩;have oJ:=aa ((et.o.alloc _).go hb);have rS:=aa ((hb.1.block w.heap.size (by simp;omega) (by omega)).trans (aI iI.o _));have A0:=aa ((hb.1.block w2.heap.size (by simp) (by omega)).trans (aF w2 _));have hg3:=PS.bQ (ws:=ws) [59] hl2;clear hb;have l1:=ae A0.o 1;have l2:=ae A0.o 2;have ls:=af A0.o;simp at l1 l2;have z0:=ae rS.o 0;have z1:=ae rS.o 1;have zf:=aj rS.o;have zs:=af rS.o;simp at z0 z1;go_wp2;exact bodyPost_ret (v:=C5 (mQ ws st).1) (by simp [results,results156,go_sem,z0,z1,zs,C5,mQ]) rfl ⟨rfl,(oJ.o.set _ 0 _ (Nat.le_refl _)).set _ 1 _ (Nat.le_refl _),Nat.le_trans hg2 hg3⟩
def ee(ws:List Wd):Nat->PS->List lu×PS
 |0,st=>([],st)
 |n+1,st=>if st.aN ws [[117,115,101]]then((mQ ws st).1::(ee ws n (mQ ws st).2).1,(ee ws n (mQ ws st).2).2)else([],st)
theorem Ek:(prog.info? 220).map (λi=>(i.zero,i.size,i.bytes))=some (some (.agg #[.string ⟨#[]⟩,.int .i64 0]),2,24):=by kernel_rfl
theorem yS{e:TypeId}(h:w.ownsRow base e size v n xs):∃po pn pc,v=.slice po pn pc:=by
 rcases h.2 with⟨h,_⟩|⟨g,cap,aU,h,_⟩<;>exact⟨_,_,_,h⟩
theorem aQ{e:TypeId}(h:w.ownsRow base e size v n xs):∀g,v.ownBlock=some g->base<=g/\g<w.heap.size:=by
 intro g hg
 rcases h.2 with⟨rfl,_⟩|⟨g0,cap,aU,rfl,hb,hc,_⟩
 ·simp [Value.ownBlock]at hg
 simp [Value.ownBlock]at hg;subst hg;exact⟨hb,af hc⟩
theorem Ok.NG{P:Pl}{ws:List Wd}{st:PS}{w0 w':World}{r:Option Nat}(h:Ok P ws w0 st w)(hg:w.grownBy w' r)(hb:∀g,r=some g->w0.heap.size<=g):Ok P ws w0 st w':=by
 have hp:∀k,k<w0.heap.size->w'.heap[k]?=w.heap[k]?:=λk hk=>hg.block k (Nat.lt_of_lt_of_le hk h.size) (by intro e;have:=hb k e.symm;omega)
 refine⟨h.p1,h.p2,⟨hg.os.trans h.but.os,hg.tape.trans h.but.tape,hg.output.trans h.but.output,Nat.le_trans h.size hg.size,λk hk hne=>(hp k hk).trans (h.but.block k hk hne)⟩,?_⟩;exact⟨(hp _ h.p1).trans h.cz.blk,(hp _ h.p2).trans h.cz.row,h.cz.cells,h.cz.ne,h.cz.lt,h.cz.small,h.cz.fits⟩
theorem NH(P:Pl)(ws:List Wd)(cT:∀s:PS,s.i+1=ws.length->(s.aU ws).aL=0)(st:PS)(w:World)(hp:jJ P ws st w)(b:Nat)(hb0:w.cell? ⟨b,0,none⟩=some (.string ⟨[117,115,101].toArray⟩))(oP:b<w.heap.size)(DM:b≠P.pb):
  Calls prog 155 #[.pointer (some ⟨P.pb,0,none⟩),.func (.func 156) #[.pointer (some ⟨P.pb,0,none⟩)] #[],.slice (some ⟨b,0,none⟩) 1 1] w λe w'=>
   ∃v,e=.returned v/\Ok P ws w (ee ws ws.length st).2 w'/\w'.ownsRow w.heap.size 220 2 v (ee ws ws.length st).1.length ((ee ws ws.length st).1.flatMap dI):=by
 have h1:=af hp.blk;have hsm:=hp.small;have hl0:=hp.lt;have HQ:=aa (Ok.refl hp);have hZ:=aa cT;have DN:=aa hb0;clear hp cT hb0;obtain⟨i0,hi,hz0,hz1,hz2⟩:=info_parts Ek
 go_enter func155,ntmps155
 go_wp2
 go_loopg [7] ws.length (λn v wr=>∃(tl:List lu) (s:PS),Hy (ee ws ws.length st=(tl++(ee ws n s).1,(ee ws n s).2))/\s.rem ws<n/\tl.length+n<=ws.length/\Hy (Ok P ws w s wr)/\
   Hy (wr.ownsRow w.heap.size 220 2 v tl.length (tl.flatMap dI)))
 case atStart=>exact⟨[],st,rfl,by simp only [PS.rem];omega,by simp,HQ.o,World.ownsRow_nil _ _ _ _⟩
 obtain⟨tl,s,HC,jh,Ay,HO,Cv⟩:=hrel;have hlt:=HO.o.cz.lt;have Cu:=HO.o.size
 rcases hat:s.aN ws [[117,115,101]]with _|_
 ·have oK:=aa (show ee ws ws.length st=(tl,s) by
   rw [HC.o]
   cases gk with
   |zero=>omega
   |succ n=>simp [ee,hat])
  go_wp2_with fail
  refine(at_one P ws s _ (by exact HO.o.cz) b [117,115,101] (by exact(HO.o.but.cell oP DM 0).trans DN.o) (by omega)).mono ?_;rintro e w2 ⟨rfl,hb⟩;rw [hat];have et:=aa (HO.o.below hb);have jF:=aa (aM Cv.o (w':=w2) (λk e=>hb.block k (aQ Cv.o k e).2));clear hb;go_wp2;go_ret;rw [oK.o];exact⟨_,rfl,et.o,jF.o⟩
 have Cw:=PS.bX hZ.o hat hlt;have sX:=PS.dw Cw
 have hex:s.au ws [117,115,101]=s.next ws:=by simp [PS.au,hat]
 go_wp2_with fail
 refine(at_one P ws s _ (by exact HO.o.cz) b [117,115,101] (by exact(HO.o.but.cell oP DM 0).trans DN.o) (by omega)).mono ?_;rintro e w2 ⟨rfl,hb⟩;rw [hat];have et:=aa (HO.o.below hb);have jF:=aa (aM Cv.o (w':=w2) (λk e=>hb.block k (aQ Cv.o k e).2));clear hb
 go_wp2_with fail
 refine(yR P ws s _ (by exact et.o.cz)).mono ?_;rintro e w3 ⟨rfl,bp,dG⟩;rw [hex]at dG;have oJ:=aa (et.o.trans bp);have qz:=aa (aM jF.o (w':=w3) (λk e=>bp.but.block k (aQ jF.o k e).2 (by have:=(aQ jF.o k e).1;omega)));have sI:=aa dG;have hs3:=oJ.o.size;generalize hr3:mQ ws s=r3 at*;have Ki:=aa hr3;clear bp dG hr3 hex;unfold C5
 go_wp2_with (at_builtin;refine wpList_append_own _ rfl _ _ 215 rfl w.heap.size 220 i0 (.agg #[.string ⟨#[]⟩,.int .i64 0]) 2 24 underlying215 hi hz0 hz1 hz2 rfl (by decide) _ _ _ rfl (qz.o.alloc _) ⟨w3.heap.size,0,none⟩ 1 1 (dI r3.1) rfl rfl ?c1 ?c2 ?c3 ?c4 ?c5 ?_)
 case c1=>
  intro j u hj
  match j,hj with
  |0,hj=>simp [dI]at hj;subst hj;simp [Addr.add]
  |1,hj=>simp [dI]at hj;subst hj;simp [Addr.add]
 case c2=>intro u hu;simp [dI]at hu;rcases hu with rfl|rfl<;>rfl
 case c3=>unfold maxLen;omega
 case c4=>omega
 case c5=>simp;omega
 intro v' w4 hown' aB _;have ot:=aa ((oJ.o.alloc _).NG aB (λg e=>(aQ qz.o g e).1));have mh:=aa hown';clear aB hown';go_wp2
 go_roundg (gk-1)
 case measure=>omega
 case rel=>
  refine⟨tl++ [r3.1],r3.2,?_,?_,?_,ot.o,?_⟩
  ·show ee ws ws.length st=_
   rw [HC.o]
   cases gk with
   |zero=>omega
   |succ n=>simp [ee,hat,Ki.o]
  ·have:=PS.cH (ws:=ws) sI.o;omega
  ·simp;omega
  ·show w4.ownsRow _ _ _ _ _ _
   have:=mh.o;simpa using this
end Go.Proofs.YtpmmjkiclngpmaaGreatDoor
