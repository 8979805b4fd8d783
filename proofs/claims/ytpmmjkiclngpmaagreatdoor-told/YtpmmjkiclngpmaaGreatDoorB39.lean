/- YtpmmjkiclngpmaaGreatDoorB39 -/
import Derived.Test.YtpmmjkiclngpmaaGreatDoorB38
set_option maxRecDepth 100000
set_option linter.unusedSimpArgs false
set_option linter.unusedVariables false
set_option maxHeartbeats 12800000
namespace Go.Proofs.YtpmmjkiclngpmaaGreatDoor
open Tryz
open Go.RowKit
variable{p:SP}{lo:Nat}{w:World}
theorem Sn{B:Nat}{w6 w7:World}{Z:Nat->Prop}{fv uv:Value}{t:List UInt8}{fs:List CF}{us:List Us}{xs:List Value}(tI:∀k,p.o k->k<lo)(hB:lo<=B)(hB6:B<=w6.heap.size)(Yk:w6.ownsRow B 92 8 fv fs.length xs)(hfa:iC (λk=>B<=k/\Z k) w6 xs fs)(rY:Below w6.heap.size w6 w7)(Yl:w7.ownsRow w6.heap.size 185 3 uv us.length (bo us)):A9 (λk=>¬p.o k) w7 (.agg #[.string ⟨t.toArray⟩,fv,uv]) ⟨t,fs,us⟩:=by
 refine⟨fv,uv,rfl,⟨xs,p_.of (bE Yk (λk _ l=>rY.block k l)) (λk e ho=> ?_),hfa.keep λk hk hl=>⟨λho=> ?_,rY.block k hl⟩⟩,p_.of Yl (λk e ho=> ?_)⟩
 ·have:=(aG Yk k e).1;have:=tI k ho;omega
 ·have:=hk.1;have:=tI k ho;omega
 have:=(aG Yl k e).1;have:=tI k ho;omega
theorem cx.abB{w':World}{n:Nm}{L:List Md}{cs:List Nm}{im:Option (List CF)}(h:cx w p ⟨gB n none L,cs,im⟩)(hr:bY (aZ L))(hn:n∈aZ L)(o:Ob){ov:Nm->Value}{v:Value}(hm:cV prog w' 9 p.ob (jk n (haves (gB n none L))) (uI ov n v))(hg:w.grownBy w' (some p.ob))(xM:∀m∈gB n none L,∀o,m.obj=some o->A9 (λk=>¬p.o k) w (ov m.ag) o)(hx:A9 (λk=>¬p.o k) w v o):bG p.own w w'/\cx w' p ⟨gB n (some o) L,cs,im⟩:=by
 have:=h.ZJ n (some o) (ov':=uI ov n v) (by show cV _ _ _ _ (haves (gB n (some o) (gB n none L))) _;rw [xO (by rw [kM];exact hr) (by rw [kM];exact hn)];exact hm) hg (λx hx hne o ho=>by rw [yI _ _ hne];exact xM x hx o ho) (λo' ho=>by cases ho;rw [Ba];exact hx);refine⟨this.1,?_⟩;have h2:=this.2;simp only [Lg]at h2;exact h2
theorem AK{s:qb}(h:cx w p s){fb:Nat}{tr:Nm->Option (Nat×Mod)}(hf:dW lo w fb s.L tr)(tI:∀k,p.own k->k<lo)(hex:∀k,p.ex k->k<w.heap.size)(hcs:∀x∈s.comp,x∈aZ s.L)(m:Md)(hm:m∈s.L):
  Calls prog 46 #[.pointer (some ⟨p.sb,0,none⟩),.map (some fb),.string ⟨m.ag.toArray⟩] w λe w'=>
   e=.returned (.tuple #[.int .i64 ((ez (aP s.L) m).1.1:Int),.int .i64 ((ez (aP s.L) m).1.2:Int)])/\bG p.own w w'/\cx w' p (BC s m):=by
 obtain⟨c0,c1,c2,hl⟩:=h.field;have hsm:=h.small m hm
 have gO:m.ag.length<=maxLen:=by unfold maxLen;omega
 have kV:m.ag∈aZ s.L:=List.mem_map.2 ⟨m,hm,rfl⟩;have CQ:=h.ku;have hcr:=h.comp.rising lL
 have pq:=aa (show(jk m.ag s.comp).length<=8 from by
  have:=tZ hcr.jk (r:=aZ s.L) (λx hx=>(jS.1 hx).elim (λe=>by rw [e];exact kV) (hcs x))
  rw [List.length_map]at this;omega)
 have Z5:=aa (show s.comp.length<maxLen by unfold maxLen;omega);have xf:=aa (nV gO);have HS:=aa h;have HF:=aa hf;have OE:=aa tI;have Hf:=aa hex;have TI:=aa h.small;have oM:=aa kV;have abC:=aa (EO h.rising hm);have Wb:=aa (mj h.rising hm);have yi:=h.yM;have HR:=aa h.rising;clear h hf tI hex hcs hcr kV CQ hm
 go_enter func46,ntmps46
 go_wp2_with (at_mapUpdate;refine pW _ rfl _ _ _ 81 rfl 9 157 lL Ej p.cb s.comp (λ_=> .agg #[]) rfl HS.o.comp Z5.o (.string ⟨m.ag.toArray⟩) (.agg #[]) m.ag rfl rfl xf.o ?_)
 intro w1 hm1 xG
 obtain⟨b1,s1⟩:=HS.o.Uc pq.o (hm1.congr λx _=>by unfold uI;split<;>rfl) xG
 have eC:=aa b1;have ky:=aa s1;obtain⟨d0,d1,d2,dl⟩:=s1.field;obtain⟨ov,zz,xM⟩:=s1.mP;have Yh:=aa zz;have ZE:=aa xM;clear hm1 xG b1 s1 zz xM c0 c1 c2 hl
 go_wp2_with (at_delete;refine lN _ rfl _ _ 80 9 rfl 154 lL uO p.ob (haves s.L) ov rfl Yh.o (.string ⟨m.ag.toArray⟩) m.ag rfl xf.o ?_)
 intro w2 UZ hg2;obtain⟨b2,s2⟩:=ky.o.ZJ m.ag none (by show cV _ _ _ _ (haves (gB m.ag none s.L)) ov;rw [xN HR.o];exact UZ) hg2 (λx hx _ o ho=>ZE.o x hx o ho) (λo ho=>by cases ho);have cU:=aa (eC.o.trans b2);have oK:=aa (HF.o.V' OE.o cU.o);have kg:=aa s2;have hlk:=oK.o.ar m.ag gO;clear UZ hg2 b2 s2 d0 d1 d2 dl
 rcases Hg:tr m.ag with _|⟨mb,md⟩
 ·have vL:ir m.now=none:=by
   have:=HF.o.is m.ag;rw [Hg]at this;unfold aP at this;rw [Wb.o]at this;exact this.symm
  have HV:=aa (show ez (aP s.L) m=((4,(dC m.now).2.ai),none) by unfold ez;rw [vL])
  have xD:(dC m.now).2.aH=true:=by
   unfold ir at vL
   split at vL
   ·next h=>exact h
   ·cases vL
  have hpe:gz s.L m.ag=(dC m.now).2.ai:=by unfold gz;rw [Wb.o];simp [xD]
  rw [Hg,hpe]at hlk;unfold gy at hlk;simp only [Option.map_none]at hlk;clear Hg vL xD hpe
  go_wp2_with fail
  go_quiet (fail)
  go_wp2
  go_ret2
  have hb3:Below w2.heap.size w2 ((w2.alloc (.cells #[.pointer none,.int .i64 ((dC m.now).2.ai:Int)] 107)).drewN nq):=((Below.refl _ _).alloc (Nat.le_refl _) _).trans ((bA _ nq).mono (by simp));exact⟨by rw [HV.o];rfl,cU.o.trans (bG.aW hb3),by unfold BC;rw [HV.o];exact kg.o.below hb3⟩
 have hE:aP s.L m.ag=some md:=by rw [<-HF.o.is,Hg];rfl
 have vL:ir m.now=some md:=by
  unfold aP at hE;rw [Wb.o]at hE;exact hE
 have iD:=aa (rq TI.o hE);rw [Hg]at hlk;unfold gy at hlk;simp only [Option.map_some]at hlk;obtain⟨X,hX⟩:∃X,w2.alloc (.cells #[.pointer (some ⟨mb,0,none⟩),.int .i64 (gz s.L m.ag)] 107)=X:=⟨_,rfl⟩
 have qg:Below w2.heap.size w2 X:=by rw [<-hX];exact(Below.refl _ _).alloc (Nat.le_refl _) _
 have RD:=aa (cU.o.trans (bG.aW qg));have HSX:=aa (kg.o.below qg);have Ud:=aa (oK.o.below qg)
 have x0:X.cell? ⟨w2.heap.size,0,none⟩=some (.pointer (some ⟨mb,0,none⟩)):=by rw [<-hX];simp
 have xl:w2.heap.size<X.heap.size:=by rw [<-hX];simp
 have HX:=aa hX;have B1:=aa Hg;have Zn:=aa (Oo Ud.o TI.o m.ag hsm.1 mb md Hg);have ZK:=aa (show ez (aP s.L) m=(((fI (aP s.L) md).aK,(fI (aP s.L) md).ai),if(fI (aP s.L) md).aK=0 then some ⟨m.now,(lS m.ag (aP s.L) md).1,kC m.ag (aP s.L) md⟩else none) by unfold ez;rw [vL]);clear Hg hE vL hX qg
 go_wp2_with fail
 rw [HX.o]
 go_wp2_with fail
 refine Zn.o.mono ?_;rintro e w4 ⟨iv,rfl,hb4,hv4⟩;have Q6:=aa (Ud.o.trees TI.o B1.o iv hb4 X.heap.size);have Y3:=Q6.o.Zz;rw [OC Ud.o md]at Y3;have HC:=aa (xL 700 (λk=>k<X.heap.size) X.heap.size (λk hk=>hk) w4 _ md Q6.o.me _ hv4 hb4.size (by show(md.aq.map _).length=_;rw [List.length_map]) _ Y3 iD.o.ok);rw [show rj (qy md (fZ (aP s.L) md)) 700 md (VK.pts ⟨X.heap.size,m.ag,mb,iv,md.aq.map λi=>gy (tr i.ag)⟩)=fI (aP s.L) md from Wa Ud.o md]at HC;have iw:=aa hb4;clear hb4 hv4 Y3
 go_wp2_with fail
 refine HC.o.mono ?_;rintro e w5 ⟨rfl,cZ,uv5,hv5⟩;have gT:=aa (iw.o.trans cZ);have HV5:=aa hv5;have UX:=aa (Q6.o.below cZ);have sR:=aa (HSX.o.below gT.o);clear cZ hv5
 by_cases h0:(fI (aP s.L) md).aK=0
 ·have h1:((fI (aP s.L) md).aK:Int)=0:=by omega
  have HD:=aa (show ez (aP s.L) m=((0,(fI (aP s.L) md).ai),some ⟨m.now,(lS m.ag (aP s.L) md).1,kC m.ag (aP s.L) md⟩) by rw [ZK.o,if_pos h0,h0])
  have Sp:=aa (show ∀wq,cx wq p ⟨gB m.ag none s.L,jk m.ag s.comp,s.vX⟩->(Instr.lookup 79 (.map (some p.mb)) (.string ⟨m.ag.toArray⟩) false).run prog wq=.ok (.agg #[.string ⟨m.now.toArray⟩]) wq from λwq hq=>by
   have:=hq.g_.ar lL gI (zeroValue129 _) xf.o;rw [if_pos (show m.ag∈aZ (gB m.ag none s.L) by rw [kM];exact oM.o)]at this;unfold tR at this;rw [zA,abC.o]at this
   exact this)
  have XM:=Sp.o _ (sR.o.below (w':=w5.drew) ((Below.refl _ _).drew));obtain⟨e0,e1,_,el⟩:=sR.o.field;have Dy:=Js
  have HLh:=aa (show(haves (gB m.ag none s.L)).length<maxLen from by
   have h1:(haves (gB m.ag none s.L)).length<=(gB m.ag none s.L).length:=by unfold haves;rw [List.length_map];exact List.length_filter_le _ _
   have h2:=sR.o.ku.1;have h3:(gB m.ag none s.L).length<=8:=h2
   unfold maxLen;omega)
  have CY:=aa (show Calls prog 77 #[.pointer (some ⟨X.heap.size,0,none⟩)] w5.drew λe w'=>∃fv uv xs,e=.returned (.agg #[fv])/\Below X.heap.size w5.drew w'/\Vw X.heap.size ⟨X.heap.size,m.ag,mb,iv,md.aq.map λi=>gy (tr i.ag)⟩ (lS m.ag (aP s.L) md).2 uv w'/\
    w'.ownsRow X.heap.size 92 8 fv (lS m.ag (aP s.L) md).1.length xs/\iC (λk=>X.heap.size<=k/\¬jG ⟨X.heap.size,m.ag,mb,iv,md.aq.map λi=>gy (tr i.ag)⟩ uv k) w' xs (lS m.ag (aP s.L) md).1/\∀k,fv.ownBlock=some k->¬jG ⟨X.heap.size,m.ag,mb,iv,md.aq.map λi=>gy (tr i.ag)⟩ uv k from
   ED 700 (λk=>k<X.heap.size) X.heap.size w5.drew _ _ uv5 HV5.o.drew (λk hk=>hk) md (UX.o.below (w':=w5.drew) ((Below.refl _ _).drew)).me (zm m.ag md (fZ (aP s.L) md)) (tW md (fZ (aP s.L) md))
   (λC tb wq q1 q2 hb=>by have:=UX.o.Z0 C tb wq q1 q2 (((Below.refl _ w5).drew).trans hb);rw [OC Ud.o md]at this;exact this)
   (by have:=iD.o.fl;omega) (BD iD.o h0) (λf hf=>by have:=(iD.o.fs f hf).pl;have:=(iD.o.fs f hf).br.En (700+1);omega) (λf hf=>by have:=(iD.o.fs f hf).pl;omega) (Jy iD.o))
  have Oi:=aa (show ∀(wq:World) (uv:Value),Below X.heap.size w5 wq->Vw X.heap.size ⟨X.heap.size,m.ag,mb,iv,md.aq.map λi=>gy (tr i.ag)⟩ (lS m.ag (aP s.L) md).2 uv wq->Calls prog 78 #[.pointer (some ⟨X.heap.size,0,none⟩)] wq λe w'=>∃v',e=.returned v'/\Below wq.heap.size wq w'/\
    w'.ownsRow wq.heap.size 185 3 v' (kC m.ag (aP s.L) md).length (bo (kC m.ag (aP s.L) md))from λwq uv hb hv=>
   OA wq _ _ uv hv md _ (UX.o.below hb) (Jz iD.o) (Sm (aP s.L)) (OD iD.o) (λj g1 g2=>by
    show fx (((md.aq.map λi=>tr i.ag)[j]).map Prod.snd) []=Sm (aP s.L) (md.aq[j].ag,[])
    rw [List.getElem_map,Ud.o.is];rfl))
  have HX5:=aa (show X.heap.size<=w5.heap.size from gT.o.size)
  have OH:=aa (show ∀k,p.o k->k<X.heap.size from λk hk=>by
   have:=Ud.o.low;have:=Ud.o.map.lt;have h3:=RD.o.size
   rcases hk with hk|hk
   ·have:=OE.o k hk;omega
   ·have:=Hf.o k hk;omega)
  clear h0;generalize (fI (aP s.L) md).aK=cd at*;generalize ado:lS m.ag (aP s.L) md=ob at*;generalize adp:kC m.ag (aP s.L) md=us at*
  go_wp2_with fail
  go_region_law (first
   |(refine fp rfl 77 #[.tmp 53] #[158] rfl Tryz.call77 #[.pointer (some ⟨X.heap.size,0,none⟩)] ?_ CY.o ?_;(simp [Act.eval,Act.put]);rintro e w6 ⟨fv,uv6,xs,rfl,kz,hv6,Yk,ZL,ZM⟩;obtain⟨fo,fc,rfl⟩:=ak Yk;refine⟨_,rfl,?_⟩;have fY:=aa (show Below X.heap.size w5 w6 from((Below.refl _ w5).drew).trans kz);have HV6:=aa hv6;have AL:=aa Yk;have abD:=aa ZL;have HX6:=aa (show X.heap.size<=w6.heap.size from by have:=fY.o.size;have:=HX5.o;omega);have xP:=aa (HSX.o.below (gT.o.trans fY.o));obtain⟨f0,f1,_,fl⟩:=xP.o.field;have oL:=Sp.o _ xP.o;clear kz hv6 Yk ZL ZM)
   |(refine fp rfl 78 #[.tmp 55] #[158] rfl Tryz.call78 #[.pointer (some ⟨X.heap.size,0,none⟩)] ?_ (Oi.o w6 uv6 fY.o HV6.o) ?_;(simp [Act.eval,Act.put]);rintro e w7 ⟨v7,rfl,rY,Yl⟩;obtain⟨uo,uc,rfl⟩:=ak Yl;refine⟨_,rfl,?_⟩;have vM:=aa rY;have MA:=aa Yl;have QK:=aa (xP.o.below rY);obtain⟨g0,g1,_,gl⟩:=QK.o.field;have YG:=Sp.o _ QK.o;obtain⟨ov7,ZN,ZO⟩:=QK.o.mP;have abE:=aa ZO;obtain⟨w8,acS,hm8,Lh⟩:=ZN.put lL uO HLh.o (val:=.agg #[.string ⟨m.now.toArray⟩,.slice fo ob.1.length fc,.slice uo us.length uc]) xf.o;have HM8:=aa hm8;have Jg:=aa Lh;clear rY Yl ZN ZO hm8 Lh))
  all_goals
   (try go_wp2_with fail)
   have fJ:=aa (QK.o.abB HR.o oM.o ⟨m.now,ob.1,us⟩ HM8.o Jg.o abE.o (Sn OH.o (Nat.le_refl _) HX6.o AL.o abD.o vM.o MA.o))
   go_ret2
   exact⟨by rw [HD.o];rfl,(RD.o.trans (bG.aW (gT.o.trans fY.o))).trans ((bG.aW vM.o).trans fJ.o.1),by unfold BC;rw [HD.o];exact fJ.o.2⟩
 have HD:=aa (show ez (aP s.L) m=(((fI (aP s.L) md).aK,(fI (aP s.L) md).ai),none) by rw [ZK.o,if_neg h0])
 have h1:¬((fI (aP s.L) md).aK:Int)=0:=by omega
 go_wp2
 go_ret2
 exact⟨by rw [HD.o];rfl,RD.o.trans (bG.aW gT.o),by unfold BC;rw [HD.o];exact sR.o⟩
end Go.Proofs.YtpmmjkiclngpmaaGreatDoor
