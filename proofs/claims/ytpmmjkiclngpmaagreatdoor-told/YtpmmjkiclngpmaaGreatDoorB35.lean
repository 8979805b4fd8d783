/- YtpmmjkiclngpmaaGreatDoorB35 -/
import Derived.Test.YtpmmjkiclngpmaaGreatDoorB17
import Derived.Test.YtpmmjkiclngpmaaGreatDoorB13
import Derived.Test.YtpmmjkiclngpmaaGreatDoorB31
set_option maxRecDepth 100000
set_option linter.unusedSimpArgs false
set_option linter.unusedVariables false
set_option maxHeartbeats 12800000
namespace Go.Proofs.YtpmmjkiclngpmaaGreatDoor
open Tryz
open Go.RowKit
variable{n:Nm}{p:SP}{w w':World}{s:qb}
theorem mr(s:ByteArray)(w:World)(hs:s.size<=281474976710656):Calls prog 60 #[.string s] w λe w'=>e=.returned (.string s)/\Below w.heap.size w w':=by
 have hc:Calls prog 98 #[.string s] w λe w'=>e=.returned (.string s)/\Below w.heap.size w w':=Any.stringslite_Clone Tryz.laysM316 s w hs
 go_enter func60,ntmps60
 go_wp2_with fail
 refine hc.mono ?_;rintro e w' ⟨rfl,hb⟩;have HB:=aa hb;clear hb;go_wp2;go_ret;exact⟨rfl,HB.o⟩
def nP(s:qb)(n:Nm)(t:List UInt8):Nat×qb:=
 if cw n=false then(1,s)else if 600<t.length\/(n∉aZ s.L/\8<=s.L.length)then(2,s)else(0,{s with L:=jV n t s.L})
def ub(s:qb)(n:Nm):Nat×qb:=if n∈aZ s.L then(0,{s with L:=oy n s.L})else(3,s)
theorem EJ(h:cw n=true):n.length<=8:=by
 unfold cw at h;simp only [Bool.and_eq_true,decide_eq_true_eq]at h;exact h.2.1
theorem cx.set{s:qb}(h:cx w p s){t:List UInt8}(hn:n.length<=8)(ht:t.length<=600)(CQ:n∈aZ s.L\/s.L.length<8)(hm:cV prog w' 9 p.mb (jk n (aZ s.L)) (uI (tR s.L) n (.agg #[.string ⟨t.toArray⟩])))(hg:w.grownBy w' (some p.mb)):cx w' p {s with L:=jV n t s.L}:=by
 have hr:=h.rising;have yi:=h.yM
 have hbl:∀k,k<w.heap.size->k≠p.mb->w'.heap[k]?=w.heap[k]?:=λk hk hne=>hg.block k hk (λe=>hne (by simpa using e))
 have fG:∀k,¬p.o k->k<w.heap.size->¬p.o k/\w'.heap[k]?=w.heap[k]?:=λk h1 h2=>⟨h1,hbl k h2 (λe=>h1 (Or.inl (Or.inr (Or.inl e))))⟩
 have hr':bY (aZ (jV n t s.L)):=by rw [mN hr];exact hr.jk
 refine⟨?_,?_,?_,?_,h.n1,h.n2,h.n3,⟨?_,h.ku.2⟩,?_⟩
 ·obtain⟨ip,a,b⟩:=h.blk
  exact⟨ip,(hbl _ (af a) yi.1).trans a,b.keep fG⟩
 ·show cV _ _ _ _ (aZ (jV n t s.L)) (tR (jV n t s.L))
  rw [mN hr]
  refine hm.congr λx hx=> ?_
  have:=NA (n:=n) (t:=t) hr (x:=x) (by rw [mN hr];exact hx);unfold uI tR;rw [this]
  split<;>rfl
 ·obtain⟨ov,a,b⟩:=h.mP
  refine⟨ov,?_,λm hm o ho=> ?_⟩
  ·show cV _ _ _ _ (haves (jV n t s.L)) ov
   rw [GP];exact a.keep (hbl _ a.lt h.n1.symm)
  ·rcases uM hm with⟨e1,e2,e3|⟨m0,e3,e4,e5⟩⟩|⟨e1,e2⟩
   ·rw [e3]at ho;cases ho
   ·rw [e1,<-e4]
    exact(b m0 e3 o (by rw [<-e5];exact ho)).keep fG
   ·exact(b m e2 o ho).keep fG
 ·exact h.comp.keep (hbl _ h.comp.lt h.n2.symm)
 ·show(jV n t s.L).length<=8
  have e:(aZ (jV n t s.L)).length=(jV n t s.L).length:=by simp
  rw [<-e,mN hr]
  rcases CQ with kV|hlt
  ·rw [I_ hr kV];simpa using h.ku.1
  ·have:=Ns (n:=n) (ns:=aZ s.L)
   simp only [List.length_map]at this;omega
 intro m hm
 rcases uM hm with⟨e1,e2,_⟩|⟨e1,e2⟩
 ·exact⟨by rw [e1];exact hn,by rw [e2];exact ht⟩
 exact h.small m e2
structure Sf (w0:World) (p:SP) (s:qb) (w:World):Prop where
 dB:Below w0.heap.size w0 w
 st:cx w p s
theorem Sf.go{w0:World}(h:Sf w0 p s w)(hb:Below w.heap.size w w'):Sf w0 p s w':=⟨h.dB.trans (hb.mono h.dB.size),h.st.below hb⟩
theorem Sg(h:cx w p s)(n:Nm)(hn:n.length<=140737488355328)(t:List UInt8)(ht:t.length<=140737488355328):
  Calls prog 35 #[.pointer (some ⟨p.sb,0,none⟩),.string ⟨n.toArray⟩,.string ⟨t.toArray⟩] w λe w'=>
   e=.returned (.int .i64 ((nP s n t).1:Int))/\bG p.own w w'/\cx w' p (nP s n t).2:=by
 have gO:n.length<=maxLen:=by unfold maxLen;omega
 obtain⟨c0,c1,c2,hl⟩:=h.field;have HS:=aa h;have AG:=aa (show Calls prog 59 #[.string ⟨n.toArray⟩] w λe w'=>e=.returned (.bool (cw n))/\w'=w from GR ⟨n.toArray⟩ w);have O1:=aa (Je h n gO)
 rcases lK:cw n with _|_
 ·have HV:=aa (show nP s n t=(1,s) by simp [nP,lK])
  rw [HV.o];clear h
  go_enter func35,ntmps35
  go_wp2_with fail
  refine AG.o.mono ?_;rintro e w ⟨rfl,rfl⟩;rw [lK];go_wp2;go_ret;exact⟨rfl,bG.refl _ _,HS.o⟩
 have hn8:=EJ lK
 by_cases ZD:600<t.length
 ·have HV:=aa (show nP s n t=(2,s) by simp [nP,lK,ZD])
  have h6:(600:Int)<(t.length:Int):=by omega
  rw [HV.o];clear h
  go_enter func35,ntmps35
  go_wp2_with fail
  refine AG.o.mono ?_;rintro e w ⟨rfl,rfl⟩;rw [lK];go_wp2;go_ret;exact⟨rfl,bG.refl _ _,HS.o⟩
 have h6:¬(600:Int)<(t.length:Int):=by omega
 have hlen:=h.g_.len gI
 have Jv:(aZ s.L).length=s.L.length:=by simp
 rw [Jv]at hlen;have CQ:=h.ku.1
 by_cases oC:n∉aZ s.L/\8<=s.L.length
 ·have HV:=aa (show nP s n t=(2,s) by unfold nP;rw [if_neg (by simp [lK]),if_pos (Or.inr oC)])
  have h8:(8:Int)<=(s.L.length:Int):=by omega
  rw [HV.o]
  have hdec:decide (n∈aZ s.L)=false:=by simpa using oC.1
  clear h oC
  go_enter func35,ntmps35
  go_wp2_with fail
  refine AG.o.mono ?_;rintro e w ⟨rfl,rfl⟩;rw [lK]
  go_wp2_with fail
  refine O1.o.mono ?_;rintro e w1 ⟨rfl,hb1⟩;rw [hdec];have d0:=(aC hb1 hl 0).trans c0
  have oT:p.sb<w1.heap.size:=by have:=hb1.size;omega
  have ky:=aa (HS.o.below hb1);have O2:=ky.o.g_.len gI;rw [Jv]at O2;have eC:=aa hb1;clear hb1 hlen;go_wp2;go_ret;exact⟨rfl,bG.aW eC.o,ky.o⟩
 have HV:=aa (show nP s n t=(0,{s with L:=jV n t s.L}) by unfold nP;rw [if_neg (by simp [lK]),if_neg (by rintro(h|h);exact ZD h;exact oC h)]);rw [HV.o]
 have O3:n∈aZ s.L\/s.L.length<8:=by
  by_cases kV:n∈aZ s.L
  ·exact Or.inl kV
  ·exact Or.inr (Nat.lt_of_not_le λh=>oC ⟨kV,h⟩)
 have pz:=aa (λ(wa wb:World) (hst:cx wa p s)=>hst.set (w':=wb) hn8 (by omega:t.length<=600) O3);have Sh:=aa (show(aZ s.L).length<maxLen by rw [Jv];unfold maxLen;omega);have xf:=aa (nV gO);have Gu:=aa (show(⟨t.toArray⟩:ByteArray).size<=281474976710656 by show t.toArray.size<=_;simp;omega);have HN2:=aa (show(⟨n.toArray⟩:ByteArray).size<=281474976710656 by show n.toArray.size<=_;simp;omega);have VW:(∃d,decide (n∈aZ s.L)=d/\(d=true\/¬(8:Int)<=(s.L.length:Int))):=⟨_,rfl,O3.elim (λh=>Or.inl (by simpa using h)) (λh=>Or.inr (by omega))⟩;obtain⟨d,hd,N1⟩:=VW;have HD:=aa hd;have R6:=aa N1;clear h oC O3 hd N1
 go_enter func35,ntmps35
 go_wp2_with fail
 refine AG.o.mono ?_;rintro e w ⟨rfl,rfl⟩;rw [lK]
 go_wp2_with fail
 refine O1.o.mono ?_;rintro e w1 ⟨rfl,hb1⟩;rw [HD.o];have d0:=(aC hb1 hl 0).trans c0
 have oT:p.sb<w1.heap.size:=by have:=hb1.size;omega
 have ky:=aa (HS.o.below hb1);have O2:=ky.o.g_.len gI;rw [Jv]at O2;have HW:=aa (show Sf w p s w1.drew from⟨hb1.drew,ky.o.below ((Below.refl _ _).drew)⟩);clear hb1 hlen
 rcases hdd:d with _|_
 ·subst hdd
  have h8:¬(8:Int)<=(s.L.length:Int):=R6.o.elim (λh=>by cases h) (λh=>by omega)
  go_wp2_with fail
  go_region_law (first
   |(refine fp rfl 60 #[.tmp 31] #[9] rfl Tryz.call60 #[.string ⟨n.toArray⟩] ?_ (mr _ _ ?_) ?_;(simp [Act.eval,Act.put]);(exact HN2.o);rintro e w3 ⟨rfl,hb3⟩;refine⟨_,rfl,?_⟩;have HW:=aa (HW.o.go hb3);have d0:=HW.o.st.field.1;have oT:=HW.o.st.field.2.2.2;clear hb3;obtain⟨w5,O4,O5,rR⟩:=cV.put (key:=.string ⟨n.toArray⟩) (val:=.agg #[.string ⟨t.toArray⟩]) HW.o.st.g_ lL gI Sh.o xf.o;have Si:=aa (pz.o _ w5 HW.o.st O5 rR);have gT:=aa (bG.trans (bG.aW (T:=p.own) HW.o.dB) (bG.mO rR (λk e=>Or.inl (Or.inr (Or.inl (by simpa using e.symm))))));clear O5 rR)
   |(refine fp rfl 60 #[.tmp 33] #[9] rfl Tryz.call60 #[.string ⟨t.toArray⟩] ?_ (mr _ _ ?_) ?_;(simp [Act.eval,Act.put]);(exact Gu.o);rintro e w4 ⟨rfl,hb4⟩;refine⟨_,rfl,?_⟩;have HW:=aa (HW.o.go hb4);have d0:=HW.o.st.field.1;have oT:=HW.o.st.field.2.2.2;clear hb4;obtain⟨w5,O4,O5,rR⟩:=cV.put (key:=.string ⟨n.toArray⟩) (val:=.agg #[.string ⟨t.toArray⟩]) HW.o.st.g_ lL gI Sh.o xf.o;have Si:=aa (pz.o _ w5 HW.o.st O5 rR);have gT:=aa (bG.trans (bG.aW (T:=p.own) HW.o.dB) (bG.mO rR (λk e=>Or.inl (Or.inr (Or.inl (by simpa using e.symm))))));clear O5 rR))
  all_goals
   (try go_wp2_with fail)
   go_ret;exact⟨rfl,gT.o,Si.o⟩
 subst hdd
 go_wp2_with fail
 go_region_law (first
  |(refine fp rfl 60 #[.tmp 31] #[9] rfl Tryz.call60 #[.string ⟨n.toArray⟩] ?_ (mr _ _ ?_) ?_;(simp [Act.eval,Act.put]);(exact HN2.o);rintro e w3 ⟨rfl,hb3⟩;refine⟨_,rfl,?_⟩;have HW:=aa (HW.o.go hb3);have d0:=HW.o.st.field.1;have oT:=HW.o.st.field.2.2.2;clear hb3;obtain⟨w5,O4,O5,rR⟩:=cV.put (key:=.string ⟨n.toArray⟩) (val:=.agg #[.string ⟨t.toArray⟩]) HW.o.st.g_ lL gI Sh.o xf.o;have Si:=aa (pz.o _ w5 HW.o.st O5 rR);have gT:=aa (bG.trans (bG.aW (T:=p.own) HW.o.dB) (bG.mO rR (λk e=>Or.inl (Or.inr (Or.inl (by simpa using e.symm))))));clear O5 rR)
  |(refine fp rfl 60 #[.tmp 33] #[9] rfl Tryz.call60 #[.string ⟨t.toArray⟩] ?_ (mr _ _ ?_) ?_;(simp [Act.eval,Act.put]);(exact Gu.o);rintro e w4 ⟨rfl,hb4⟩;refine⟨_,rfl,?_⟩;have HW:=aa (HW.o.go hb4);have d0:=HW.o.st.field.1;have oT:=HW.o.st.field.2.2.2;clear hb4;obtain⟨w5,O4,O5,rR⟩:=cV.put (key:=.string ⟨n.toArray⟩) (val:=.agg #[.string ⟨t.toArray⟩]) HW.o.st.g_ lL gI Sh.o xf.o;have Si:=aa (pz.o _ w5 HW.o.st O5 rR);have gT:=aa (bG.trans (bG.aW (T:=p.own) HW.o.dB) (bG.mO rR (λk e=>Or.inl (Or.inr (Or.inl (by simpa using e.symm))))));clear O5 rR))
 all_goals
  (try go_wp2_with fail)
  go_ret;exact⟨rfl,gT.o,Si.o⟩
theorem cx.rem{w1 w2:World}{s:qb}(h:cx w p s){ov:Nm->Value}(zz:∀m∈s.L,∀o,m.obj=some o->A9 (λk=>¬p.o k) w (ov m.ag) o)(hm:cV prog w1 9 p.mb ((aZ s.L).filter λx=> !(x==n)) (tR s.L))(hg:w.grownBy w1 (some p.mb))(ho:cV prog w2 9 p.ob ((haves s.L).filter λx=> !(x==n)) ov)(hg2:w1.grownBy w2 (some p.ob)):bG p.own w w2/\cx w2 p {s with L:=oy n s.L}:=by
 have hr:=h.rising;have yi:=h.yM
 have hbl:∀k,k<w.heap.size->k≠p.mb->k≠p.ob->w2.heap[k]?=w.heap[k]?:=λk hk h1 h2=>(hg2.block k (by have:=hg.size;omega) (λe=>h2 (by simpa using e))).trans (hg.block k hk (λe=>h1 (by simpa using e)))
 have fG:∀k,¬p.o k->k<w.heap.size->¬p.o k/\w2.heap[k]?=w.heap[k]?:=λk h1 h2=>⟨h1,hbl k h2 (λe=>h1 (Or.inl (Or.inr (Or.inl e)))) (λe=>h1 (Or.inl (Or.inr (Or.inr (Or.inl e)))))⟩
 refine⟨⟨hg2.os.trans hg.os,hg2.tape.trans hg.tape,hg2.output.trans hg.output,Nat.le_trans hg.size hg2.size,λk h1 h2=>hbl k h1 (λe=>h2 (Or.inr (Or.inl e))) (λe=>h2 (Or.inr (Or.inr (Or.inl e))))⟩,⟨?_,?_,⟨ov,?_,λm hm o ho=> ?_⟩,?_,h.n1,h.n2,h.n3,⟨?_,h.ku.2⟩,λm hm=>h.small m (uN hm).1⟩⟩
 ·obtain⟨ip,a,b⟩:=h.blk
  exact⟨ip,(hbl _ (af a) yi.1 yi.2.1).trans a,b.keep fG⟩
 ·show cV _ _ _ _ (aZ (oy n s.L)) (tR (oy n s.L))
  rw [tQ]
  refine(hm.keep (hg2.block _ hm.lt (λe=>h.n1 (by simpa using e)))).congr λx hx=> ?_
  unfold tR;rw [NB hr (by rw [tQ];exact hx)]
 ·show cV _ _ _ _ (haves (oy n s.L)) ov
  rw [GQ];exact ho
 ·exact(zz m (uN hm).1 o ho).keep fG
 ·exact h.comp.keep (hbl _ h.comp.lt h.n2.symm h.n3.symm)
 show(oy n s.L).length<=8;exact Nat.le_trans (List.length_filter_le _ _) h.ku.1
theorem Hz(h:cx w p s)(n:Nm)(hn:n.length<=140737488355328):
  Calls prog 28 #[.pointer (some ⟨p.sb,0,none⟩),.string ⟨n.toArray⟩] w λe w'=>
   e=.returned (.int .i64 ((ub s n).1:Int))/\bG p.own w w'/\cx w' p (ub s n).2:=by
 have gO:n.length<=maxLen:=by unfold maxLen;omega
 have O1:=aa (Je h n gO);have HS:=aa h
 by_cases kV:n∈aZ s.L
 ·have HV:=aa (show ub s n=(0,{s with L:=oy n s.L}) by simp only [ub,if_pos kV])
  have HD:=aa (show decide (n∈aZ s.L)=true by simpa using kV);have xf:=aa (nV gO);rw [HV.o];clear h kV
  go_enter func28,ntmps28
  go_wp2_with fail
  refine O1.o.mono ?_;rintro e w1 ⟨rfl,hb1⟩;rw [HD.o];have hs1:=HS.o.below hb1;have ky:=aa hs1;obtain⟨c0,c1,_,hl⟩:=hs1.field;have yi:=hs1.yM;obtain⟨ov,zz,xM⟩:=hs1.mP;have Yh:=aa zz;have ZE:=aa xM;have eC:=aa hb1;clear hb1 hs1 zz xM
  go_wp2_with (at_delete;refine lN _ rfl _ _ 79 9 rfl 129 lL gI p.mb (aZ s.L) (tR s.L) rfl ky.o.g_ (.string ⟨n.toArray⟩) n rfl xf.o ?_)
  intro w2 UZ hg2;have d1:=(World.cell?_of_block (a:=⟨p.sb,1,none⟩) (hg2.block p.sb hl (λe=>yi.1 (by simpa using e)))).trans c1
  have hl2:p.sb<w2.heap.size:=by have:=hg2.size;omega
  have et:=aa (Yh.o.keep (hg2.block _ Yh.o.lt (λe=>ky.o.n1.symm (by simpa using e))));have Em:=aa UZ;have Gs:=aa hg2;clear UZ hg2
  go_wp2_with (at_delete;refine lN _ rfl _ _ 80 9 rfl 154 lL uO p.ob (haves s.L) ov rfl et.o (.string ⟨n.toArray⟩) n rfl xf.o ?_)
  intro w3 TD hg3;have HR:=aa (ky.o.rem ZE.o Em.o Gs.o TD hg3);clear TD hg3;go_wp2;go_ret;exact⟨rfl,(bG.aW eC.o).trans HR.o.1,HR.o.2⟩
 have HV:=aa (show ub s n=(3,s) by simp only [ub,if_neg kV]);have HD:=aa (show decide (n∈aZ s.L)=false by simpa using kV);rw [HV.o];clear h kV
 go_enter func28,ntmps28
 go_wp2_with fail
 refine O1.o.mono ?_;rintro e w1 ⟨rfl,hb1⟩;rw [HD.o];have eC:=aa hb1;clear hb1;go_wp2;go_ret;exact⟨rfl,bG.aW eC.o,HS.o.below eC.o⟩
end Go.Proofs.YtpmmjkiclngpmaaGreatDoor
