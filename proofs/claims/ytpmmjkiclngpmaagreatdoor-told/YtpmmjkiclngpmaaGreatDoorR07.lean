/- YtpmmjkiclngpmaaGreatDoorR07 -/
import Derived.Test.YtpmmjkiclngpmaaGreatDoorR06
import Derived.Test.YtpmmjkiclngpmaaGreatDoorB45
import Derived.Laws.BytesArg
set_option maxRecDepth 100000
set_option linter.unusedSimpArgs false
set_option linter.unusedVariables false
set_option maxHeartbeats 12800000
namespace Go.Proofs.YtpmmjkiclngpmaaGreatDoor
open Tryz
open Go.RowKit
variable{g n cap sb k size hb base m wb b cap' i t:Nat}{w w' wr w1 w2:World}{S S' X T:Nat->Prop}{v pv hv tv av lv:Value}{Lb:List Md}{s:qb}{c hc wc:Array Value}{xs vs cs hs:List Value}{p:SP}{xR:Bool}{f:Nat×Nat}{o:Option Addr}{D:List Dg}{tg jv xS:Nat->Nat}{dH:List Nat}
theorem IF(C:List Nm)(n:Nm):jA (C++ [n])=jA C++ [.string ⟨n.toArray⟩]:=by
 show(C++ [n]).map Go.Proofs.encStr=_;rw [List.map_append];rfl
theorem eW.frozen{l:List wU}(h:eW S w (.slice (some ⟨g,0,none⟩) n cap) l):∀o,w.frozen? ⟨g,o,none⟩=false:=by
 obtain⟨xs,a,_⟩:=h
 rcases a.1.2 with⟨e,_⟩|⟨g0,lH,aU,e,_,hcb,_⟩
 ·simp at e
 simp only [Value.slice.injEq,Option.some.injEq,Addr.mk.injEq]at e;obtain⟨⟨rfl,_⟩,_,rfl⟩:=e;exact aj hcb
theorem Xx(w:World)(a:Value)(t:TypeId):∀j u,[a][j]?=some u->(w.alloc (.cells #[a] t)).cell? ((⟨w.heap.size,0,none⟩:Addr).add j)=some u:=by
 intro j u hj
 match j,hj with
 |0,hj=>simp at hj;subst hj;simp [Addr.add]
theorem Mj{l:List (List UInt8×RM)}(h:eL S w v l):∃o c,v=.slice o l.length c:=by
 obtain⟨xs,a,_⟩:=h;exact ak a.1
set_option maxHeartbeats 25600000 in
theorem IG(h:uu S w sb s Lb)(hr:bY (aZ s.L))(hf:s.L.length<=8)(hs:∀m∈s.L,m.ag.length<=8/\m.now.length<=600)(hM:E_ s):
  Calls prog 83 #[.pointer (some ⟨sb,0,none⟩)] w (U3 S w sb s):=by
 obtain⟨l0,lo,lc,kv0,iv,hb0,hT0,hL0,ms0,hK0,hA0,hR0⟩:=h.cells;have rU:l0.length=s.L.length:=hL0.1;have c1:=ae hb0 1;have cl:=af hb0;have cf:=aj hb0;simp at c1
 have Yc:=aa (FV l0 S w sb _ kv0 iv _ hb0 hT0 (λx hx=>by
  obtain⟨i,hi,rfl⟩:=List.getElem_of_mem hx
  have uV:i<s.L.length:=by rw [<-rU];exact hi
  rw [(hL0.2 i hi uV).now]
  exact(hs _ (List.getElem_mem uV)).2) (by omega))
 have adT:=aa h.own
 have aa7:=aa (λ(w1:World) (av:Value) (ms:List (List UInt8×RM)) (hb1:Below w.heap.size w w1) (hA1:eL (λk=>w.heap.size<=k/\k<w1.heap.size) w1 av ms)=>(show Rb S w sb (.slice lo s.L.length lc) iv av s.vX.isSome ms (cS (cn (aP s.L)) s.L 0) (en (aP s.L) (s.L.take 0)) (cA (aP s.L) (s.L.take 0)) (.slice none 0 0) (w1.setCell ⟨sb,1,none⟩ (.slice none 0 0)) by
  have rL:=(hb1.block _ cl).trans hb0;rw [rU]at rL hT0;have hk:=gL.set rL (by decide) 1 (.slice none 0 0);refine⟨(bG.aW hb1).set (Or.inl h.own) _ _,⟨l0,.slice none 0 0,ax rL 1 _,?_,?_,World.ownsRow_nil _ _ _ _⟩,?_,World.ownsRow_nil _ _ _ _,h.own,cl⟩
  ·exact eW.fH (hT0.keep λk h1 h2=>⟨Or.inl h1,hb1.block k h2⟩) hk
  ·have:cS (cn (aP s.L)) s.L 0=s.L:=by simp [cS]
   rw [this];exact hL0
  ·exact eL.fH (hA1.keep λk h1 h2=>⟨Or.inr h1.1,rfl⟩) hk))
 have Yx:=aa (λ(ms:List (List UInt8×RM)) (h:xy l0 ms)=>hL0.rd h);have HSz:=aa (λm hm=>(hs m hm).2);have MB:=aa hr.ne;have HMm:=aa hM;clear h hb0 hT0 hL0 hK0 hA0 hR0 hr hs hM
 go_enter func83,ntmps83
 go_wp2_with fail
 refine Yc.o.mono ?_;rintro e w1 ⟨av,ms,rfl,hb1,hA1,hR1⟩;obtain⟨ao,ac,Uq⟩:=Mj hA1;subst Uq;have Tn:=aa (aa7.o w1 _ ms hb1 hA1);have HR:=aa (Yx.o ms hR1);have c1':=(hb1.cell (p:=⟨sb,1,none⟩) cl).trans c1
 have cl1:sb<w1.heap.size:=by have:=hb1.size;omega
 have cf1:∀o,w1.frozen? ⟨sb,o,none⟩=false:=λo=>(hb1.frozen (p:=⟨sb,o,none⟩) cl).trans (cf o)
 clear hb1 hA1 hR1 aa7 Yc Yx;go_wp2
 go_loopg [4,5] s.L.length (λnn v4 v5 wr=>∃j:Nat,nn+j=s.L.length/\v5=.int .i64 j/\Hy (Rb S w sb (.slice lo s.L.length lc) iv (.slice ao ms.length ac) s.vX.isSome ms (cS (cn (aP s.L)) s.L j) (en (aP s.L) (s.L.take j)) (cA (aP s.L) (s.L.take j)) v4 wr))
 case atStart=>exact⟨0,by omega,rfl,Tn⟩
 obtain⟨j,hj,rfl,HB⟩:=hrel;obtain⟨l,kv,hb,hT,hL,hK⟩:=HB.o.mem;obtain⟨ko,kc,RA⟩:=ak hK;subst RA;obtain⟨dO,dc,hdv⟩:=ak HB.o.Da;subst hdv
 have hlen:l.length=s.L.length:=by rw [hL.1,fU]
 have d0:=ae hb 0;have d1:=ae hb 1;have d2:=ae hb 2;have d3:=ae hb 3;have dl:=af hb;have df:=aj hb;simp at d0 d1 d2 d3
 by_cases hlt:j<s.L.length
 ·have eu:(j:Int)<(s.L.length:Int):=by omega
  have SZ:(j:Int)+1<=9223372036854775807:=by omega
  have wj:j<l.length:=by omega
  have Gj:j<ms.length:=by have:=HR.o.1;omega
  rcases hT.cells with⟨_,hnil⟩|⟨g,cap,hv,eP,hmx,qU,hcs⟩
  ·rw [hnil]at wj;simp at wj
  ·rw [<-hlen]at HB hb hT d0
   have hv2:=hv;rw [<-hlen]at hv2
   injection hv2 with v1 v2 v3
   subst v1 v3;obtain⟨uv,t0,t1,t2,t3,t4,⟨uo,un,uc,wH⟩,Ub⟩:=hcs j wj;subst wH
   have hTj:j<(cS (cn (aP s.L)) s.L j).length:=by rw [fU];exact hlt
   have has:sV l[j] s.L[j]:=by have:=hL.2 j wj hTj;rw [ng _ _ _ hlt]at this;exact this
   have Sl:=aa (IB ms _ wr _ HB.o.all (HR.o.SJ HSz.o) l[j] uo un uc (λhh=>(Ub hh).1) (λhh=>by
    have h1:=has.has;rw [hh]at h1;obtain⟨o,ho⟩:=Option.isSome_iff_exists.1 h1.symm;rw [(has.obj o ho).2]
    exact(HMm.o _ (List.getElem_mem hlt) o ho).og.ok.ul))
   rw [I7 (JQ HR.o MB.o) has]at Sl
   have XL:∀o,wr.frozen? ⟨g,o,none⟩=false:=by
    obtain⟨xs,a,_⟩:=hT
    rcases a.1.2 with⟨e,_⟩|⟨g0,lH,aU,e,_,hcb,_⟩
    ·simp at e
    ·simp only [Value.slice.injEq,Option.some.injEq,Addr.mk.injEq]at e
     obtain⟨⟨rfl,_⟩,_,rfl⟩:=e;exact aj hcb
   have HAs:=aa has;have WQ:=aa hb;have HHT:=aa hT;have HHL:=aa hL;have HHK:=aa hK;have E5:=aa hlen
   rcases Ie:curr (aP s.L) s.L[j]with _|_
   ·rw [Ie]at Sl
    have HTn:=aa (IC j hlt Ie);have D4:=aa (show en (aP s.L) (s.L.take (j+1))=en (aP s.L) (s.L.take j)++ [s.L[j].ag] by rw [Cg j hlt,Ie];simp);have HDn:=aa (Mh j hlt Ie);have SX:=aa (HR.o.2 j hlt Gj).2
    have qF:=aa (λ(w4:World) (Ap QV ES:Value) (hA:eL (λk=>S k\/w.heap.size<=k) w4 (.slice ao ms.length ac) ms) (hM:jr (λk=>S k\/w.heap.size<=k) w4 Ap QV ES ms[j].2) (oC:ms[j].2.bad=false)=>(show ∃md,ez (aP s.L) s.L[j]=(((fI (aP s.L) md).aK,(fI (aP s.L) md).ai),if(fI (aP s.L) md).aK=0 then some ⟨s.L[j].now,(lS s.L[j].ag (aP s.L) md).1,kC s.L[j].ag (aP s.L) md⟩else none)/\Calls prog 131 #[.slice ao ms.length ac,.agg #[Ap,QV,ES,.bool false,.int .i64 ms[j].2.ai]] w4 (P_ (aP s.L) md w4) by
     obtain⟨md,h1,h2,h3⟩:=Tl (E:=aP s.L) SX.o oC
     exact⟨md,h3,FW (Tm (S:=λk=>(S k\/w.heap.size<=k)/\k<w4.heap.size) (hA.keep λk a b=>⟨⟨a,b⟩,rfl⟩) HR.o MB.o HSz.o hlt Gj (hM.keep λk a b=>⟨⟨a,b⟩,rfl⟩) (λk hk=>hk.2) oC h1 h2)⟩))
    have acC:=aa (λoC:ms[j].2.bad=true=>Qm (E:=aP s.L) SX.o oC)
    have Te:=aa (λ(w4:World) (hA:eL (λk=>S k\/w.heap.size<=k) w4 (.slice ao ms.length ac) ms)=>(show ∃ga Ap QV ES,ao=some ⟨ga,0,none⟩/\ga<w4.heap.size/\w4.cell? ⟨ga,j*6+1,none⟩=some Ap/\w4.cell? ⟨ga,j*6+2,none⟩=some QV/\w4.cell? ⟨ga,j*6+3,none⟩=some ES/\w4.cell? ⟨ga,j*6+4,none⟩=some (.bool ms[j].2.bad)/\w4.cell? ⟨ga,j*6+5,none⟩=some (.int .i64 ms[j].2.ai)/\jr (λk=>S k\/w.heap.size<=k) w4 Ap QV ES ms[j].2 by
     rcases hA.cells with⟨_,hn⟩|⟨ga,cap,hv,eP,_,_,hc⟩
     ·rw [hn]at Gj;simp at Gj
     ·injection hv with v1 v2 v3
      obtain⟨Ap,QV,ES,_,q1,q2,q3,q4,q5,q6⟩:=hc j Gj
      exact⟨ga,Ap,QV,ES,v1,eP,q1,q2,q3,q4,q5,q6⟩))
    have mG:=aa (λ(l':List wU) (h:oN l' (cS (cn (aP s.L)) s.L j)) (h':j<l'.length)=>(show sV l'[j] s.L[j] by have:=h.2 j h' hTj;rw [ng _ _ _ hlt]at this;exact this))
    have adU:(en (aP s.L) (s.L.take j)).length<=8:=by
     have:(en (aP s.L) (s.L.take j)).length<=(s.L.take j).length:=by unfold en;rw [List.length_map];exact List.length_filter_le _ _
     rw [List.length_take]at this;omega
    have adV:(cA (aP s.L) (s.L.take j)).length<=8:=by have:=nj (E:=aP s.L) (L:=s.L.take j);rw [List.length_take]at this;omega
    have Xy:=aa (fU (cn (aP s.L)) s.L j);have HXn:=aa has.ag;clear Ie has hb hT hL hK Ub hcs hv v2 hmx hlen hTj HAs;generalize l[j]=x at*;generalize s.L[j]=m at*;generalize ms[j].2=rm at*;generalize en (aP s.L) (s.L.take j)=C at*;generalize cA (aP s.L) (s.L.take j)=D at*;generalize cS (cn (aP s.L)) s.L j=T at*;obtain⟨ll,Xz⟩:∃ll,ll=l.length:=⟨_,rfl⟩;rw [<-Xz]at HB WQ HHT d0 E5 wj
    have adW:(j:Int)<(ll:Int):=by omega
    have KQ:=aa Xz;clear Xz
    go_wp2_with fail
    refine Sl.o.mono ?_;rintro e w3 ⟨rfl,hb3⟩;have dy:=aa (HB.o.below hb3);have a3:=(hb3.block _ dl).trans WQ.o;have A0:=aa a3;have QJ:=aa (HHT.o.fH (gL.aW hb3));have iy:=aa (aM HHK.o λk e=>hb3.block k (aQ HHK.o k e).2);have e1:=ae a3 1;have el:=af a3;have ef:=aj a3;have q0:=(hb3.cell (p:=⟨g,j*5,none⟩) eP).trans t0
    have hg3:g<w3.heap.size:=by have:=hb3.size;omega
    have To:∀o,w3.frozen? ⟨g,o,none⟩=false:=λo=>(hb3.frozen (p:=⟨g,o,none⟩) eP).trans (XL o)
    rw [HXn.o]at q0;simp at e1;have acD:w.heap.size<=w3.heap.size:=dy.o.but.size;clear hb3 a3 t0 t1 t2 t3 t4 d0 d1 dl df eP XL HB WQ HHT HHK Sl
    have b1:C.length+1<=maxLen:=by unfold maxLen;omega
    have b2:(C.length+1)*16<=140737488355328:=by omega
    have kp:=aa (show ∀u∈ [Value.string ⟨m.ag.toArray⟩],u.oneCell'=true from Ii rfl);have JS:=aa (show w.heap.size<=(w3.drew.alloc (.cells #[.string ⟨m.ag.toArray⟩] 9)).heap.size by simp;omega);have uq:=aa (λ(v':Value) (w4:World) (hown:w4.ownsRow w.heap.size 9 1 v' (C.length+1) (jA C++ [.string ⟨m.ag.toArray⟩])) (hg:w3.grownBy w4 (Value.slice ko C.length kc).ownBlock)=>dy.o.last (n:=m.ag) (v':=v') A0.o QJ.o HHL.o iy.o (by rw [IF,List.length_append];exact hown) hg)
    have aa8:=aa (λ(w4:World) (hg:w3.grownBy w4 (Value.slice ko C.length kc).ownBlock)=>(show w4.cell? ⟨sb,1,none⟩=some (.slice ko C.length kc)/\sb<w4.heap.size/\∀o,w4.frozen? ⟨sb,o,none⟩=false by
     have hne:(Value.slice ko C.length kc).ownBlock≠some sb:=λe=>by have:=(aQ iy.o _ e).1;have:=dy.o.lt;omega
     have a4:=(hg.block _ el (λe=>hne e.symm)).trans A0.o
     exact⟨by rw [ae a4];rfl,af a4,aj a4⟩))
    go_wp2_with fail
    go_cut [] (λwx=>Hy (Rb S w sb (.slice (some ⟨g,0,none⟩) ll lc) iv (.slice ao ms.length ac) s.vX.isSome ms T (C++ [m.ag]) D (.slice dO D.length dc) wx))
    case first=>
     obtain⟨i0,hi,hz0,hz1,hz2⟩:=info_parts yE
     go_region_law (refine cv rfl (.tmp 41) (.tmp 46) 58 rfl w.heap.size 9 i0 (.string ⟨#[]⟩) 1 16 underlying58 hi hz0 hz1 hz2 rfl (by decide) (.slice ko C.length kc) C.length (jA C) ?_ ?_ ⟨w3.heap.size,0,none⟩ 1 1 [.string ⟨m.ag.toArray⟩] ?_ rfl ?_ kp.o b1 b2 ?_ ?_;(simp [Act.eval,Act.put]);(exact(World.ownsRow.drew iy.o).alloc _);(simp [Act.eval,Act.put]);(exact(Xx w3.drew _ _));(exact JS.o);intro v' w4 hown aB aJ;obtain⟨g4,c4,cu4,rfl,_⟩:=cN hown (by omega);have hg4:=dS (aA aB);have HN4:=aa (uq.o _ w4 hown hg4);obtain⟨s1,s2,s3⟩:=aa8.o w4 hg4;clear hown aB aJ hg4)
     all_goals
      go_wp2_with fail
      go_meet
      exact HN4
    case rest=>
     have lF:=aa hcut.o;obtain⟨l2,kv2,hb2,hT2,hL2,hK2⟩:=lF.o.mem
     have h2:l2.length=ll:=by rw [hL2.1,Xy.o,E5.o]
     subst h2
     rcases hT2.cells with⟨_,hnil⟩|⟨g',cap',hv',R7,_,_,aa9⟩
     ·rw [hnil]at wj;simp at wj
     ·injection hv' with v1 v2 v3
      injection v1 with v1
      injection v1 with v1
      subst v1 v3;obtain⟨TC,y0,y1,y2,_⟩:=aa9 j wj;have acE:=hT2.frozen;have pz:=aa (lF.o.has hb2 hT2 hL2 hK2 wj (mG.o l2 hL2 wj));clear aa9 hb2 hT2 hL2 hK2 v2
      go_upto_region 11 with fail
      go_cut [] (λwx=>Hy (Rb S w sb (.slice (some ⟨g,0,none⟩) l2.length lc) iv (.slice ao ms.length ac) s.vX.isSome ms (T.set j {m with obj:=none}) (C++ [m.ag]) D (.slice dO D.length dc) wx))
      case first=>
       go_wp2_with fail
       go_meet
       obtain⟨l3,iY,_,_,_,_,_,B0⟩:=pz.o;exact aa (by rw [iY]at B0;exact B0)
      case rest=>
       have HBy:=aa hcut.o;clear hcut pz lF y0 y1 y2 R7 acE q0 hg3 To el ef e1 A0 QJ iy dy uq aa8 acD;obtain⟨ga,Ap,QV,ES,hao,QG,p1,p2,p3,p4,p5,hM⟩:=Te.o wc HBy.o.all;subst hao
       have adX:(j:Int)<(ms.length:Int):=by omega
       have VE:=aa (λ(c:Array Value)=>hM.fH (gL.aW ((Below.refl wc.heap.size wc).alloc (Nat.le_refl _) (.cells c 249))));obtain⟨⟨LA,ln1,lc1,rfl⟩,⟨io1,in1,ic1,rfl⟩,⟨fo1,fn1,fc1,rfl⟩⟩:=hM.sh;clear hM Te
       go_upto_region 12 with fail
       go_cut [8] (λv8 wx=>∃mb,v8=.pointer (some ⟨mb,0,none⟩)/\Hy (wx.heap[mb]?=some (.cells #[.slice LA ln1 lc1,.slice io1 in1 ic1,.slice fo1 fn1 fc1,.bool rm.bad,.int .i64 rm.ai] 249 (0,0)))/\Hy (jr (λk=>S k\/w.heap.size<=k) wx (.slice LA ln1 lc1) (.slice io1 in1 ic1) (.slice fo1 fn1 fc1) rm)/\Hy (Rb S w sb (.slice (some ⟨g,0,none⟩) l2.length lc) iv (.slice (some ⟨ga,0,none⟩) ms.length ac) s.vX.isSome ms (T.set j {m with obj:=none}) (C++ [m.ag]) D (.slice dO D.length dc) wx))
       case first=>
        go_wp2_with fail
        go_meet
        exact⟨wc.heap.size,rfl,aa (aF _ _),aa (VE.o _),aa (HBy.o.below ((Below.refl _ _).alloc (Nat.le_refl _) _))⟩
       case rest=>
        obtain⟨mb,rfl,G2,HMt,U4⟩:=hcut;clear HBy VE p1 p2 p3 p4 p5 QG;obtain⟨l3,kv3,hb3,hT3,hL3,hK3⟩:=U4.o.mem;obtain⟨ko3,kc3,acF⟩:=ak hK3;subst acF
        have iY:l3.length=l2.length:=by rw [hL3.1,List.length_set,Xy.o,<-E5.o]
        have QR:j<l3.length:=by omega
        have Tp:sV l3[j] {m with obj:=none}:=by
         have h1:=hL3.2 j QR (by rw [List.length_set,Xy.o];exact hlt);rw [List.getElem_set_self]at h1;exact h1
        have To:=hT3.frozen;rw [<-iY]at U4 hb3 hT3
        rcases hT3.cells with⟨_,hnil⟩|⟨g',cap',hv',F5,_,_,aaA⟩
        ·rw [hnil]at QR;simp at QR
        ·injection hv' with v1 v2 v3
         injection v1 with v1
         injection v1 with v1
         subst v1 v3;obtain⟨GM,y0,y1,y2,y3,y4,⟨uo3,un3,uc3,acG⟩,_⟩:=aaA j QR;subst acG;rw [Tp.ag]at y0;rw [Tp.now]at y1;have m0:=ae G2.o 0;have m1:=ae G2.o 1;have m2:=ae G2.o 2;have m3:=ae G2.o 3;have m4:=ae G2.o 4;have ml:=af G2.o;simp at m0 m1 m2 m3 m4;have X0:=aa (λ(w6:World) (kz:Below wc.heap.size wc w6) (uo:Option Addr) (un uc:Nat) (o:Ob) (ho:o.aX=m.now) (hu:cW (λk=>S k\/w.heap.size<=k) w6 185 3 (.slice uo un uc) o.aeg.length (bo o.aeg))=>(U4.o.below kz).obj ((kz.block _ (af hb3)).trans hb3) (hT3.fH (gL.aW kz)) hL3 (aM hK3 λk e=>kz.block k (aQ hK3 k e).2) QR Tp ho hu);have OW:=aa U4.o.Da;have adY:w.heap.size<=wc.heap.size:=U4.o.but.size
         have b3:D.length+1<=maxLen:=by unfold maxLen;omega
         have b4:(D.length+1)*32<=140737488355328:=by omega
         have yU:=aa iY;clear aaA hb3 hT3 hL3 hK3 v2 Tp iY
         rcases oC:rm.bad with _|_
         ·rw [oC]at m3 G2
          obtain⟨md,hcm,hck⟩:=qF.o wc _ _ _ U4.o.all HMt.o oC;have U5:=aa hcm;have A7:=aa hck;clear hcm hck oC
          go_wp2_with fail
          refine A7.o.mono ?_;rintro e w6 ⟨c,p,ov,rfl,kz,hc,hp,hu⟩;obtain⟨uo,uc,zz⟩:=ak (hu m.ag);subst zz;have FM:=aa (hu m.ag);have nO:=aa hc;have MV:=aa hp;have D5:=aa kz;obtain⟨us,RX⟩:∃us,us=kC m.ag (aP s.L) md:=⟨_,rfl⟩;rw [<-RX]at FM U5⊢;clear kz hc hp hu A7 RX m0 m1 m2 m3 m4 ml
          go_upto_region 16 with fail
          have vM:=aa (D5.o.trans (((Below.refl _ _).alloc D5.o.size (.cells #[.int .i64 c,.int .i64 p] 253))));have HF7:=aa (aF w6 (.cells #[.int .i64 c,.int .i64 p] 253));have HU7:=aa (FM.o.alloc (.cells #[.int .i64 c,.int .i64 p] 253))
          have adZ:w6.heap.size<(w6.alloc (.cells #[.int .i64 c,.int .i64 p] 253)).heap.size:=by simp
          generalize w6.alloc (.cells #[.int .i64 c,.int .i64 p] 253)=w7 at*;have f0:=ae HF7.o 0;have f1:=ae HF7.o 1;simp at f0 f1;have z0:=(vM.o.cell (p:=⟨g,j*5,none⟩) F5).trans y0;have z1:=(vM.o.cell (p:=⟨g,j*5+1,none⟩) F5).trans y1;have z2:=(vM.o.cell (p:=⟨g,j*5+2,none⟩) F5).trans y2;have z3:=(vM.o.cell (p:=⟨g,j*5+3,none⟩) F5).trans y3;have z4:=(vM.o.cell (p:=⟨g,j*5+4,none⟩) F5).trans y4
          have KA:g<w7.heap.size:=by have:=vM.o.size;omega
          have ad_:∀o,w7.frozen? ⟨g,o,none⟩=false:=λo=>(vM.o.frozen (p:=⟨g,o,none⟩) F5).trans (To o)
          have ad':w.heap.size<=w7.heap.size:=by have:=vM.o.size;omega
          clear y0 y1 y2 y3 y4 F5 To
          by_cases hc0:c=0
          ·have CY:=aa (show ez (aP s.L) m=((0,(fI (aP s.L) md).ai),some ⟨m.now,(lS m.ag (aP s.L) md).1,us⟩) by rw [U5.o,<-nO.o,hc0];rfl)
           have Bz:=aa (show cS (cn (aP s.L)) s.L (j+1)=(T.set j {m with obj:=none}).set j {m with obj:=some ⟨m.now,(lS m.ag (aP s.L) md).1,us⟩} by rw [HTn.o,CY.o,List.set_set]);have QW:=aa (show cA (aP s.L) (s.L.take (j+1))=D by rw [HDn.o,CY.o];simp)
           have Lm:=aa (show Rb S w sb (.slice (some ⟨g,0,none⟩) s.L.length lc) iv (.slice (some ⟨ga,0,none⟩) ms.length ac) s.vX.isSome ms (cS (cn (aP s.L)) s.L (j+1)) (en (aP s.L) (s.L.take (j+1))) (cA (aP s.L) (s.L.take (j+1))) (.slice dO D.length dc) (((w7.setCell ⟨g,j*5+2,none⟩ (.bool true)).setCell ⟨g,j*5+3,none⟩ (.string ⟨m.now.toArray⟩)).setCell ⟨g,j*5+4,none⟩ (.slice uo us.length uc)) by
            rw [Bz.o,D4.o,QW.o,<-E5.o,<-yU.o]
            exact X0.o w7 vM.o uo us.length uc ⟨m.now,(lS m.ag (aP s.L) md).1,us⟩ rfl ⟨cI HU7.o (Nat.zero_le _),λk e=>Or.inr (by have:=(aQ HU7.o k e).1;omega)⟩)
           subst hc0;clear X0 nO MV U5;go_wp2
           go_roundg (gk-1)
           case measure=>omega
           case rel=>exact⟨j+1,by omega,by go_num,Lm⟩
          ·have Og:¬(c:Int)=0:=by omega
           have CY:=aa (show ez (aP s.L) m=((c,p),none) by rw [U5.o,<-nO.o,<-MV.o hc0,if_neg hc0]);have Bz:=aa (show cS (cn (aP s.L)) s.L (j+1)=T.set j {m with obj:=none} by rw [HTn.o,CY.o]);have QW:=aa (show cA (aP s.L) (s.L.take (j+1))=D++ [⟨m.ag,c,p⟩] by rw [HDn.o,CY.o];simp [hc0]);have aaB:=aa (aM OW.o λk e=>vM.o.block k (aQ OW.o k e).2);have Qn:=aa (show ∀u∈ [Value.string ⟨m.ag.toArray⟩,Value.int .i64 c,Value.int .i64 p],u.oneCell'=true from zZ rfl rfl rfl);have X1:=aa (show w.heap.size<=(w7.drew.alloc (.cells #[.string ⟨m.ag.toArray⟩,.int .i64 c,.int .i64 p] 61)).heap.size by simp;omega)
           have HNw:=aa (λ(v':Value) (w8:World) (hown:w8.ownsRow w.heap.size 61 3 v' (D.length+1) (b_ D++ [.string ⟨m.ag.toArray⟩,.int .i64 c,.int .i64 p])) (hg:w7.grownBy w8 (Value.slice dO D.length dc).ownBlock)=>(show Rb S w sb (.slice (some ⟨g,0,none⟩) s.L.length lc) iv (.slice (some ⟨ga,0,none⟩) ms.length ac) s.vX.isSome ms (cS (cn (aP s.L)) s.L (j+1)) (en (aP s.L) (s.L.take (j+1))) (cA (aP s.L) (s.L.take (j+1))) v' w8 by
            rw [Bz.o,D4.o,QW.o,<-E5.o,<-yU.o]
            exact(U4.o.below vM.o).diag (by rw [qj,List.length_append];exact hown) hg))
           have hc1:((c:Int) !=0)=true:=by simp;omega
           clear X0 nO MV U5 hc0 Og
           go_wp2_with fail
           obtain⟨i0,hi,hz0,hz1,hz2⟩:=info_parts pA
           go_region_law (refine cv rfl (.tmp 79) (.tmp 89) 46 rfl w.heap.size 61 i0 (.agg #[.string ⟨#[]⟩,.int .i64 0,.int .i64 0]) 3 32 underlying46 hi hz0 hz1 hz2 rfl (by decide) (.slice dO D.length dc) D.length (b_ D) ?_ ?_ ⟨w7.heap.size,0,none⟩ 1 1 [.string ⟨m.ag.toArray⟩,.int .i64 c,.int .i64 p] ?_ rfl ?_ Qn.o b3 b4 ?_ ?_;(simp [Act.eval,Act.put]);(exact(World.ownsRow.drew aaB.o).alloc _);(simp [Act.eval,Act.put]);(exact(eU w7.drew _ _ _ _));(exact X1.o);intro v' w8 hown aB aJ;obtain⟨g8,c8,cu8,rfl,_⟩:=cN hown (by omega);have Lh:=dS (aA aB);have Tq:=aa (HNw.o _ w8 hown Lh);clear hown aB aJ Lh)
           all_goals
            go_wp2
            go_roundg (gk-1)
            case measure=>omega
            case rel=>exact⟨j+1,by omega,by go_num,Tq⟩
         ·rw [oC]at m3 G2
          have U5:=aa (acC.o oC);have Bz:=aa (show cS (cn (aP s.L)) s.L (j+1)=T.set j {m with obj:=none} by rw [HTn.o,U5.o]);have QW:=aa (show cA (aP s.L) (s.L.take (j+1))=D++ [⟨m.ag,4,rm.ai⟩] by rw [HDn.o,U5.o];rfl);have Qn:=aa (show ∀u∈ [Value.string ⟨m.ag.toArray⟩,Value.int .i64 4,Value.int .i64 rm.ai],u.oneCell'=true from zZ rfl rfl rfl);have X1:=aa (show w.heap.size<=(wc.drew.alloc (.cells #[.string ⟨m.ag.toArray⟩,.int .i64 4,.int .i64 rm.ai] 61)).heap.size by simp;omega)
          have HNw:=aa (λ(v':Value) (w6:World) (hown:w6.ownsRow w.heap.size 61 3 v' (D.length+1) (b_ D++ [.string ⟨m.ag.toArray⟩,.int .i64 4,.int .i64 rm.ai])) (hg:wc.grownBy w6 (Value.slice dO D.length dc).ownBlock)=>(show Rb S w sb (.slice (some ⟨g,0,none⟩) s.L.length lc) iv (.slice (some ⟨ga,0,none⟩) ms.length ac) s.vX.isSome ms (cS (cn (aP s.L)) s.L (j+1)) (en (aP s.L) (s.L.take (j+1))) (cA (aP s.L) (s.L.take (j+1))) v' w6 by
           rw [Bz.o,D4.o,QW.o,<-E5.o,<-yU.o]
           exact U4.o.diag (by rw [qj,List.length_append];exact hown) hg))
          clear oC
          go_wp2_with fail
          obtain⟨i0,hi,hz0,hz1,hz2⟩:=info_parts pA
          go_region_law (refine cv rfl (.tmp 60) (.tmp 68) 46 rfl w.heap.size 61 i0 (.agg #[.string ⟨#[]⟩,.int .i64 0,.int .i64 0]) 3 32 underlying46 hi hz0 hz1 hz2 rfl (by decide) (.slice dO D.length dc) D.length (b_ D) ?_ ?_ ⟨wc.heap.size,0,none⟩ 1 1 [.string ⟨m.ag.toArray⟩,.int .i64 4,.int .i64 rm.ai] ?_ rfl ?_ Qn.o b3 b4 ?_ ?_;(simp [Act.eval,Act.put]);(exact(World.ownsRow.drew OW.o).alloc _);(simp [Act.eval,Act.put]);(exact(eU wc.drew _ _ _ _));(exact X1.o);intro v' w6 hown aB aJ;obtain⟨g6,c6,cu6,rfl,_⟩:=cN hown (by omega);have Gp:=dS (aA aB);have HN6:=aa (HNw.o _ w6 hown Gp);clear hown aB aJ Gp)
          all_goals
           go_wp2
           go_roundg (gk-1)
           case measure=>omega
           case rel=>exact⟨j+1,by omega,by go_num,HN6⟩
   ·rw [Ie]at Sl
    have Bz:=aa (ID j hlt Ie);have nJ:=aa (show en (aP s.L) (s.L.take (j+1))=en (aP s.L) (s.L.take j) by rw [Cg j hlt,Ie];simp);have QW:=aa (Mi j hlt Ie);clear Ie has hb hT hL hK Ub hcs hv v2 hmx hlen;generalize l[j]=x at*
    go_wp2_with fail
    refine Sl.o.mono ?_;rintro e w3 ⟨rfl,hb3⟩;have dy:=aa (show Rb S w sb (.slice (some ⟨g,0,none⟩) s.L.length lc) iv (.slice ao ms.length ac) s.vX.isSome ms (cS (cn (aP s.L)) s.L (j+1)) (en (aP s.L) (s.L.take (j+1))) (cA (aP s.L) (s.L.take (j+1))) (.slice dO (cA (aP s.L) (s.L.take j)).length dc) w3 by rw [Bz.o,nJ.o,QW.o,<-E5.o];exact HB.o.below hb3);clear hb3;go_wp2
    go_roundg (gk-1)
    case measure=>omega
    case rel=>exact⟨j+1,by omega,by go_num,dy⟩
 have eu:¬(j:Int)<(s.L.length:Int):=by omega
 have jU:j=s.L.length:=by omega
 subst jU;have fJ:=aa (HB.o.fin HR.o);have VN:=aa (IE s);have HDl:=aa (show cA (aP s.L) (s.L.take s.L.length)=(bz s).1 by rw [List.take_length];rfl);obtain⟨dn,hdn⟩:∃dn,dn=(cA (aP s.L) (s.L.take s.L.length)).length:=⟨_,rfl⟩;rw [<-hdn]at fJ⊢
 have acH:=aa (show((dn:Int)==0)=(bz s).2.vX.isSome by
  rw [VN.o,hdn,HDl.o]
  by_cases e:(bz s).1.length=0
  ·simp [e]
  ·simp [e])
 clear hdn hb hT hL hK;go_wp2;go_ret;exact fJ.o _ acH.o
def Ae(t:TypeId):Prop:=t=92\/t=132\/t=196\/t=87\/t=185\/t=95
def tC(w:World)(k:Nat):Prop:=∀c t fz,w.heap[k]?=some (.cells c t fz)->¬Ae t
theorem tC.cells{t:TypeId}{fz:Nat×Nat}(h:w.heap[k]?=some (.cells c t fz))(ht:¬Ae t):tC w k:=λc' t' fz' h'=>by
 rw [h]at h';simp only [Option.some.injEq,Obj.cells.injEq]at h';rw [<-h'.2.1];exact ht
theorem p_.sep{t:TypeId}(h:p_ S w t size v n xs)(ht:Ae t)(hk:∀k,S k->¬tC w k->S' k):p_ S' w t size v n xs:=by
 refine⟨h.1,λk e=>hk k (h.2 k e) λhs=> ?_⟩
 rcases h.1.2 with⟨hv,_⟩|⟨g,cap,aU,hv,hb0,aed,rest⟩
 ·rw [hv]at e;simp [Value.ownBlock]at e
 rw [hv]at e;simp [Value.ownBlock]at e;subst e;exact hs _ _ _ aed ht
theorem kt.sep{fs:List CF}(h:kt S w v fs)(hk:∀k,S k->¬tC w k->S' k):kt S' w v fs:=by
 obtain⟨xs,a,b⟩:=h;exact⟨xs,a.sep (by unfold Ae;decide) hk,b.1,λj hj=>by obtain⟨pv,kv,lv,q,r⟩:=b.2 j hj;exact⟨pv,kv,lv,q,r.pr.sep (by unfold Ae;decide) hk,r.co.sep (by unfold Ae;decide) hk,r.ca.sep (by unfold Ae;decide) hk⟩⟩
theorem cx.sep{p:SP}(h:cx w p s)(ex:Nat->Prop)(hx:∀k,ex k->tC w k):cx w {p with ex:=ex} s:=by
 have hk:∀k,¬p.o k->¬tC w k->¬SP.o {p with ex:=ex} k:=λk h1 h2 ho=>ho.elim (λq=>h1 (Or.inl q)) (λq=>h2 (hx k q))
 refine⟨?_,h.g_,?_,h.comp,h.n1,h.n2,h.n3,h.ku,h.small⟩
 ·obtain⟨ip,a,b⟩:=h.blk
  refine⟨ip,a,?_⟩
  rcases hi:s.vX with _|fs
  ·rw [hi]at b;exact b
  ·rw [hi]at b
   obtain⟨ib,fv,q1,q2,q3,q4⟩:=b;exact⟨ib,fv,q1,hk ib q2 λhs=>hs _ _ _ q3 (by unfold Ae;decide),q3,q4.sep hk⟩
 obtain⟨ov,a,b⟩:=h.mP;refine⟨ov,a,λm hm o ho=> ?_⟩;obtain⟨fv,uv,q1,q2,q3⟩:=b m hm o ho;exact⟨fv,uv,q1,q2.sep hk,q3.sep (by unfold Ae;decide) hk⟩
theorem cx.less{p:SP}{ex:Nat->Prop}(h:cx w {p with ex:=ex} s)(hx:∀k,p.ex k->ex k):cx w p s:=by
 have hk:∀k,¬SP.o {p with ex:=ex} k->k<w.heap.size->(¬p.o k)/\w.heap[k]?=w.heap[k]?:=λk h1 _=>⟨λho=>h1 (ho.elim Or.inl λq=>Or.inr (hx k q)),rfl⟩
 refine⟨?_,h.g_,?_,h.comp,h.n1,h.n2,h.n3,h.ku,h.small⟩
 ·obtain⟨ip,a,b⟩:=h.blk;exact⟨ip,a,b.keep hk⟩
 obtain⟨ov,a,b⟩:=h.mP;exact⟨ov,a,λm hm o ho=>(b m hm o ho).keep hk⟩
theorem cx.skip(h:cx w p s)(hx:∀k,X k->tC w k)(hd:∀k,p.own k->¬X k)(hno:∀k,¬p.ex k)(hb:bG X w w'):cx w' p s:=by
 have h1:cx w {p with ex:=X} s:=h.sep X hx
 have h2:cx w' {p with ex:=X} s:=h1.Bj (λk hk=>hd k hk) λk hk hn=>hb.block k hk hn
 exact h2.less λk hk=>absurd hk (hno k)
abbrev MH(mk:List UInt8):List Value:= [.string ⟨mk.toArray⟩,.int .i64 0,.int .i64 0]
abbrev mkU(mk:List UInt8):List Value:= [.string ⟨mk.toArray⟩,.string ⟨#[]⟩,.string ⟨#[]⟩]
abbrev mkS(mk:List UInt8):List Value:= [.string ⟨mk.toArray⟩]
abbrev mkI(n:Int):List Value:= [.int .i64 n]
def kR(m:Nat)(cs:List Value):List Value:=(List.replicate m cs).flatten
theorem Tr(m:Nat)(cs:List Value)(k o:Nat)(hk:k<m)(ho:o<cs.length):(kR m cs)[k*cs.length+o]?=cs[o]?:=by
 unfold kR
 induction m generalizing k with
 |zero=>omega
 |succ m ih=>
  rw [List.replicate_succ,List.flatten_cons]
  cases k with
  |zero=>rw [Nat.zero_mul,Nat.zero_add,List.getElem?_append_left ho]
  |succ k=>
   rw [Nat.succ_mul,List.getElem?_append_right (by omega),show k*cs.length+cs.length+o-cs.length=k*cs.length+o by omega];exact ih k (by omega)
theorem sD(m:Nat)(cs:List Value):kR (m+1) cs=kR m cs++cs:=by unfold kR;rw [List.replicate_succ',List.flatten_append];simp
def G3(S:Nat->Prop)(w:World)(t te:TypeId)(cs:List Value)(v:Value)(vs:List Value):Prop:=cW S w t 1 v vs.length vs/\∀u∈vs,∃m,m<=9000000000000000000/\cW S w te cs.length u m (kR m cs)
theorem G3.keep{t te:TypeId}(h:G3 S w t te cs v vs)(hk:∀k,S k->k<w.heap.size->S' k/\w'.heap[k]?=w.heap[k]?):G3 S' w' t te cs v vs:=
 ⟨h.1.keep hk,λu hu=>by obtain⟨m,a,b⟩:=h.2 u hu;exact⟨m,a,b.keep hk⟩⟩
theorem G3.nil(S:Nat->Prop)(w:World)(t te:TypeId)(cs:List Value):G3 S w t te cs (.slice none 0 0) []:=⟨⟨World.ownsRow_nil _ _ _ _,λg e=>by simp [Value.ownBlock]at e⟩,λu hu=>by cases hu⟩
def vG(S:Nat->Prop)(w:World)(hb:Nat):Prop:=S hb/\∃(mk:List UInt8) (n:Int) (tv uv xv nv:Value),w.heap[hb]?=some (.cells #[tv,uv,xv,nv,.string ⟨mk.toArray⟩,.int .i64 n] 183 (0,0))/\
 (∃vs,G3 S w 46 61 (MH mk) tv vs)/\(∃vs,G3 S w 152 185 (mkU mk) uv vs)/\(∃vs,G3 S w 58 9 (mkS mk) xv vs)/\∃vs,G3 S w 25 3 (mkI n) nv vs
theorem vG.keep(h:vG S w hb)(hk:∀k,S k->k<w.heap.size->S' k/\w'.heap[k]?=w.heap[k]?):vG S' w' hb:=by
 obtain⟨hs,mk,n,tv,uv,xv,nv,a,⟨v0,b⟩,⟨v1,c⟩,⟨v2,d⟩,⟨v3,e⟩⟩:=h;have:=hk hb hs (af a);exact⟨this.1,mk,n,tv,uv,xv,nv,this.2.trans a,⟨v0,b.keep hk⟩,⟨v1,c.keep hk⟩,⟨v2,d.keep hk⟩,⟨v3,e.keep hk⟩⟩
theorem rM{t:TypeId}{n:Nat}(h:w.ownsRow base t size v n xs):(n:Int)<=9223372036854775807:=by
 rcases bZ h with⟨_,rfl⟩|⟨_,_,_,_,_,hm,_⟩
 ·omega
 unfold maxLen at hm;omega
theorem k_{t:TypeId}(h:w.ownsRow base t 1 v vs.length vs)(i:Nat)(hi:i<vs.length):∃g cap,v=.slice (some ⟨g,0,none⟩) vs.length cap/\g<w.heap.size/\w.cell? ⟨g,i,none⟩=some vs[i]:=by
 rcases bZ h with⟨_,h0⟩|⟨g,cap,rfl,hb,hlt,gO,hc,he⟩
 ·omega
 exact⟨g,cap,rfl,hlt,(hc i (by omega)).trans (List.getElem?_eq_getElem hi)⟩
theorem sF{t:TypeId}(h:w.ownsRow base t cs.length v m (kR m cs))(k:Nat)(hk:k<m):∃g cap,v=.slice (some ⟨g,0,none⟩) m cap/\g<w.heap.size/\∀o,o<cs.length->w.cell? ⟨g,k*cs.length+o,none⟩=cs[o]?:=by
 rcases bZ h with⟨_,h0⟩|⟨g,cap,rfl,hb,hlt,gO,hc,he⟩
 ·omega
 refine⟨g,cap,rfl,hlt,λo ho=>(hc _ ?_).trans (Tr m cs k o hk ho)⟩
 calc k*cs.length+o<k*cs.length+cs.length:=by omega
  _=(k+1)*cs.length:=by rw [Nat.succ_mul]
  _<=m*cs.length:=Nat.mul_le_mul_right _ hk
theorem IH{hb0:Nat}(h:vG S w hb0):Calls prog 58 #[.pointer (some ⟨hb0,0,none⟩)] w λe w'=>e=.returned (.bool true)/\Below w.heap.size w w':=by
 obtain⟨hS,mk,n,tv,uv,xv,nv,jX,⟨V0,h0⟩,⟨V1,h1⟩,⟨V2,h2⟩,⟨V3,h3⟩⟩:=h;have FZ:=af jX;have qD:=aa jX;have Tn:=aa h0;have pF:=aa h1;have mY:=aa h2;have oB:=aa h3;have HL0:=aa (rM h0.1.1);have UN:=aa (rM h1.1.1);have XT:=aa (rM h2.1.1);have yU:=aa (rM h3.1.1);obtain⟨tO,tc,rfl⟩:=ak h0.1.1;obtain⟨vo,vc,rfl⟩:=ak h1.1.1;obtain⟨xo,xc,rfl⟩:=ak h2.1.1;obtain⟨no,nc,rfl⟩:=ak h3.1.1;clear jX h0 h1 h2 h3
 go_enter func58,ntmps58
 go_wp2
 go_loopg [3] V0.length (λnn vi wr=>∃i:Nat,nn+i=V0.length/\vi=.int .i64 i/\Hy (Below w.heap.size w wr))
 case atStart=>exact⟨0,by omega,rfl,aa (Below.refl _ _)⟩
 obtain⟨i,hi,rfl,eM⟩:=hrel;obtain⟨go,hgo⟩:∃x,x=gk:=⟨_,rfl⟩;subst hgo;have hb:=(eM.o.block hb0 FZ).trans qD.o;have c0:=ae hb 0;have c1:=ae hb 1;have c2:=ae hb 2;have c3:=ae hb 3;have c4:=ae hb 4;have c5:=ae hb 5;have cl:=af hb;simp at c0 c1 c2 c3 c4 c5;clear hb
 by_cases hlt:i<V0.length
 ·have eu:(i:Int)<(V0.length:Int):=by omega
  have hmi:(i:Int)+1<=9223372036854775807:=by have:=HL0.o;omega
  obtain⟨gt,ct,vS,Sr,ht⟩:=k_ (aM Tn.o.1.1 λk e=>eM.o.block k (aQ Tn.o.1.1 k e).2) i hlt
  injection vS with v1 v2 v3
  subst v1 v3;obtain⟨m,gO,hu⟩:=Tn.o.2 V0[i] (List.getElem_mem hlt);obtain⟨uo,uc,wH⟩:=ak hu.1;have X2:=aa wH;rw [wH]at ht hu;have HU:=aa hu.1;clear hu wH v2;go_wp2
  go_loopg [4] m (λnn vk wr=>∃k:Nat,nn+k=m/\vk=.int .i64 k/\Hy (Below w.heap.size w wr))
  case atStart=>exact⟨0,by omega,rfl,eM⟩
  case round=>
   obtain⟨k,hk,rfl,kS⟩:=hrel;have hb:=(kS.o.block hb0 FZ).trans qD.o;have c0:=ae hb 0;have c1:=ae hb 1;have c2:=ae hb 2;have c3:=ae hb 3;have c4:=ae hb 4;have c5:=ae hb 5;have cl:=af hb;simp at c0 c1 c2 c3 c4 c5;clear hb;obtain⟨gt2,ct2,vS,Sr,ht⟩:=k_ (aM Tn.o.1.1 λk e=>kS.o.block k (aQ Tn.o.1.1 k e).2) i hlt
   injection vS with v1 v2 v3
   injection v1 with v1
   injection v1 with v1
   subst v1;rw [X2.o]at ht;clear v2 v3
   by_cases Oc:k<m
   ·have II:(k:Int)<(m:Int):=by omega
    have fO:(k:Int)+1<=9223372036854775807:=by omega
    obtain⟨gu,cu,X3,hgu,hc⟩:=sF (aM HU.o λk e=>kS.o.block k (aQ HU.o k e).2) k Oc
    injection X3 with v1 v2 v3
    subst v1 v3;have e0:=hc 0 (by simp);have e1:=hc 1 (by simp);have e2:=hc 2 (by simp);simp at e0 e1 e2
    have heq:=λw=>ve ⟨mk,0,0⟩ ⟨mk,0,0⟩ w
    rw [show tz ⟨mk,0,0⟩ ⟨mk,0,0⟩=true by simp [tz]]at heq
    have hgd:=λop a b w=>vg op a b ⟨mk,0,0⟩ ⟨mk,0,0⟩ w
    simp only [E']at heq hgd;clear hc v2
    go_wp2_with fail
    go_quiet (fail)
    have qd:=aa (kS.o.trans (bA wr nq|>.mono kS.o.size));go_wp2
    go_roundg (gk-1)
    case measure=>omega
    case rel=>exact⟨k+1,by omega,by go_num,qd⟩
   ·have II:¬(k:Int)<(m:Int):=by omega
    go_wp2
    go_roundg (go-1)
    case measure=>omega
    case rel=>exact⟨i+1,by omega,by go_num,kS⟩
 have eu:¬(i:Int)<(V0.length:Int):=by omega
 clear hi hlt;go_wp2
 go_loopg [5] V1.length (λnn vi wr=>∃i:Nat,nn+i=V1.length/\vi=.int .i64 i/\Hy (Below w.heap.size w wr))
 case atStart=>exact⟨0,by omega,rfl,eM⟩
 obtain⟨i,hi,rfl,eM⟩:=hrel;obtain⟨go,hgo⟩:∃x,x=gk:=⟨_,rfl⟩;subst hgo;have hb:=(eM.o.block hb0 FZ).trans qD.o;have c0:=ae hb 0;have c1:=ae hb 1;have c2:=ae hb 2;have c3:=ae hb 3;have c4:=ae hb 4;have c5:=ae hb 5;have cl:=af hb;simp at c0 c1 c2 c3 c4 c5;clear hb
 by_cases hlt:i<V1.length
 ·have eu:(i:Int)<(V1.length:Int):=by omega
  have hmi:(i:Int)+1<=9223372036854775807:=by have:=UN.o;omega
  obtain⟨gt,ct,vS,Sr,ht⟩:=k_ (aM pF.o.1.1 λk e=>eM.o.block k (aQ pF.o.1.1 k e).2) i hlt
  injection vS with v1 v2 v3
  subst v1 v3;obtain⟨m,gO,hu⟩:=pF.o.2 V1[i] (List.getElem_mem hlt);obtain⟨uo,uc,wH⟩:=ak hu.1;have X2:=aa wH;rw [wH]at ht hu;have HU:=aa hu.1;clear hu wH v2;go_wp2
  go_loopg [6] m (λnn vk wr=>∃k:Nat,nn+k=m/\vk=.int .i64 k/\Hy (Below w.heap.size w wr))
  case atStart=>exact⟨0,by omega,rfl,eM⟩
  case round=>
   obtain⟨k,hk,rfl,kS⟩:=hrel;have hb:=(kS.o.block hb0 FZ).trans qD.o;have c0:=ae hb 0;have c1:=ae hb 1;have c2:=ae hb 2;have c3:=ae hb 3;have c4:=ae hb 4;have c5:=ae hb 5;have cl:=af hb;simp at c0 c1 c2 c3 c4 c5;clear hb;obtain⟨gt2,ct2,vS,Sr,ht⟩:=k_ (aM pF.o.1.1 λk e=>kS.o.block k (aQ pF.o.1.1 k e).2) i hlt
   injection vS with v1 v2 v3
   injection v1 with v1
   injection v1 with v1
   subst v1;rw [X2.o]at ht;clear v2 v3
   by_cases Oc:k<m
   ·have II:(k:Int)<(m:Int):=by omega
    have fO:(k:Int)+1<=9223372036854775807:=by omega
    obtain⟨gu,cu,X3,hgu,hc⟩:=sF (aM HU.o λk e=>kS.o.block k (aQ HU.o k e).2) k Oc
    injection X3 with v1 v2 v3
    subst v1 v3;have e0:=hc 0 (by simp);have e1:=hc 1 (by simp);have e2:=hc 2 (by simp);simp at e0 e1 e2
    have heq:=λw=>rT (λ_=> []) (mk,[]) (mk,[]) w
    rw [decide_eq_true rfl]at heq
    have hgd:=λop a b (w:World)=>run_eqGuard_agg (P:=prog) w op 185 a b #[.string ⟨mk.toArray⟩,.string ⟨#[]⟩,.string ⟨#[]⟩] #[.string ⟨mk.toArray⟩,.string ⟨#[]⟩,.string ⟨#[]⟩] (by kernel_rfl)
    simp only [Kr]at heq;clear hc v2
    go_wp2_with fail
    go_quiet (fail)
    have qd:=aa (kS.o.trans (bA wr nq|>.mono kS.o.size));go_wp2
    go_roundg (gk-1)
    case measure=>omega
    case rel=>exact⟨k+1,by omega,by go_num,qd⟩
   ·have II:¬(k:Int)<(m:Int):=by omega
    go_wp2
    go_roundg (go-1)
    case measure=>omega
    case rel=>exact⟨i+1,by omega,by go_num,kS⟩
 have eu:¬(i:Int)<(V1.length:Int):=by omega
 clear hi hlt;go_wp2
 go_loopg [7] V2.length (λnn vi wr=>∃i:Nat,nn+i=V2.length/\vi=.int .i64 i/\Hy (Below w.heap.size w wr))
 case atStart=>exact⟨0,by omega,rfl,eM⟩
 obtain⟨i,hi,rfl,eM⟩:=hrel;obtain⟨go,hgo⟩:∃x,x=gk:=⟨_,rfl⟩;subst hgo;have hb:=(eM.o.block hb0 FZ).trans qD.o;have c0:=ae hb 0;have c1:=ae hb 1;have c2:=ae hb 2;have c3:=ae hb 3;have c4:=ae hb 4;have c5:=ae hb 5;have cl:=af hb;simp at c0 c1 c2 c3 c4 c5;clear hb
 by_cases hlt:i<V2.length
 ·have eu:(i:Int)<(V2.length:Int):=by omega
  have hmi:(i:Int)+1<=9223372036854775807:=by have:=XT.o;omega
  obtain⟨gt,ct,vS,Sr,ht⟩:=k_ (aM mY.o.1.1 λk e=>eM.o.block k (aQ mY.o.1.1 k e).2) i hlt
  injection vS with v1 v2 v3
  subst v1 v3;obtain⟨m,gO,hu⟩:=mY.o.2 V2[i] (List.getElem_mem hlt);obtain⟨uo,uc,wH⟩:=ak hu.1;have X2:=aa wH;rw [wH]at ht hu;have HU:=aa hu.1;clear hu wH v2;go_wp2
  go_loopg [8] m (λnn vk wr=>∃k:Nat,nn+k=m/\vk=.int .i64 k/\Hy (Below w.heap.size w wr))
  case atStart=>exact⟨0,by omega,rfl,eM⟩
  case round=>
   obtain⟨k,hk,rfl,kS⟩:=hrel;have hb:=(kS.o.block hb0 FZ).trans qD.o;have c0:=ae hb 0;have c1:=ae hb 1;have c2:=ae hb 2;have c3:=ae hb 3;have c4:=ae hb 4;have c5:=ae hb 5;have cl:=af hb;simp at c0 c1 c2 c3 c4 c5;clear hb;obtain⟨gt2,ct2,vS,Sr,ht⟩:=k_ (aM mY.o.1.1 λk e=>kS.o.block k (aQ mY.o.1.1 k e).2) i hlt
   injection vS with v1 v2 v3
   injection v1 with v1
   injection v1 with v1
   subst v1;rw [X2.o]at ht;clear v2 v3
   by_cases Oc:k<m
   ·have II:(k:Int)<(m:Int):=by omega
    have fO:(k:Int)+1<=9223372036854775807:=by omega
    obtain⟨gu,cu,X3,hgu,hc⟩:=sF (aM HU.o λk e=>kS.o.block k (aQ HU.o k e).2) k Oc
    injection X3 with v1 v2 v3
    subst v1 v3;have e0:=hc 0 (by simp);simp at e0;clear hc v2
    go_wp2_with fail
    go_quiet (fail)
    have qd:=aa (kS.o.trans (bA wr nq|>.mono kS.o.size));go_wp2
    go_roundg (gk-1)
    case measure=>omega
    case rel=>exact⟨k+1,by omega,by go_num,qd⟩
   ·have II:¬(k:Int)<(m:Int):=by omega
    go_wp2
    go_roundg (go-1)
    case measure=>omega
    case rel=>exact⟨i+1,by omega,by go_num,kS⟩
 have eu:¬(i:Int)<(V2.length:Int):=by omega
 clear hi hlt;go_wp2
 go_loopg [9] V3.length (λnn vi wr=>∃i:Nat,nn+i=V3.length/\vi=.int .i64 i/\Hy (Below w.heap.size w wr))
 case atStart=>exact⟨0,by omega,rfl,eM⟩
 obtain⟨i,hi,rfl,eM⟩:=hrel;obtain⟨go,hgo⟩:∃x,x=gk:=⟨_,rfl⟩;subst hgo;have hb:=(eM.o.block hb0 FZ).trans qD.o;have c0:=ae hb 0;have c1:=ae hb 1;have c2:=ae hb 2;have c3:=ae hb 3;have c4:=ae hb 4;have c5:=ae hb 5;have cl:=af hb;simp at c0 c1 c2 c3 c4 c5;clear hb
 by_cases hlt:i<V3.length
 ·have eu:(i:Int)<(V3.length:Int):=by omega
  have hmi:(i:Int)+1<=9223372036854775807:=by have:=yU.o;omega
  obtain⟨gt,ct,vS,Sr,ht⟩:=k_ (aM oB.o.1.1 λk e=>eM.o.block k (aQ oB.o.1.1 k e).2) i hlt
  injection vS with v1 v2 v3
  subst v1 v3;obtain⟨m,gO,hu⟩:=oB.o.2 V3[i] (List.getElem_mem hlt);obtain⟨uo,uc,wH⟩:=ak hu.1;have X2:=aa wH;rw [wH]at ht hu;have HU:=aa hu.1;clear hu wH v2;go_wp2
  go_loopg [10] m (λnn vk wr=>∃k:Nat,nn+k=m/\vk=.int .i64 k/\Hy (Below w.heap.size w wr))
  case atStart=>exact⟨0,by omega,rfl,eM⟩
  case round=>
   obtain⟨k,hk,rfl,kS⟩:=hrel;have hb:=(kS.o.block hb0 FZ).trans qD.o;have c0:=ae hb 0;have c1:=ae hb 1;have c2:=ae hb 2;have c3:=ae hb 3;have c4:=ae hb 4;have c5:=ae hb 5;have cl:=af hb;simp at c0 c1 c2 c3 c4 c5;clear hb;obtain⟨gt2,ct2,vS,Sr,ht⟩:=k_ (aM oB.o.1.1 λk e=>kS.o.block k (aQ oB.o.1.1 k e).2) i hlt
   injection vS with v1 v2 v3
   injection v1 with v1
   injection v1 with v1
   subst v1;rw [X2.o]at ht;clear v2 v3
   by_cases Oc:k<m
   ·have II:(k:Int)<(m:Int):=by omega
    have fO:(k:Int)+1<=9223372036854775807:=by omega
    obtain⟨gu,cu,X3,hgu,hc⟩:=sF (aM HU.o λk e=>kS.o.block k (aQ HU.o k e).2) k Oc
    injection X3 with v1 v2 v3
    subst v1 v3;have e0:=hc 0 (by simp);simp at e0;clear hc v2
    go_wp2_with fail
    go_quiet (fail)
    have qd:=aa (kS.o.trans (bA wr nq|>.mono kS.o.size));go_wp2
    go_roundg (gk-1)
    case measure=>omega
    case rel=>exact⟨k+1,by omega,by go_num,qd⟩
   ·have II:¬(k:Int)<(m:Int):=by omega
    go_wp2
    go_roundg (go-1)
    case measure=>omega
    case rel=>exact⟨i+1,by omega,by go_num,kS⟩
 have eu:¬(i:Int)<(V3.length:Int):=by omega
 clear hi hlt;go_wp2;go_ret;exact⟨rfl,eM.o⟩
theorem IJ:(prog.info? 126).map (λi=>(i.zero,i.size,i.bytes))=some (some (.pointer none),1,8):=by kernel_rfl
theorem vH(w:World)(a:Value)(t:TypeId):∀j u,[a][j]?=some u->(w.alloc (.cells #[a] t)).cell? ((⟨w.heap.size,0,none⟩:Addr).add j)=some u:=by
 intro j u hj
 match j,hj with
 |0,hj=>simp at hj;subst hj;simp [Addr.add]
def U6(wb:Nat)(pv:Value)(xR:Bool)(tv av:Value)(b:Nat)(hs:List Value)(r:Option Nat)(w:World)(e:Ending)(w':World):Prop:=
 ∃(hb:Nat) (mk:List UInt8) (n:Int) (ho:Option Addr) (hc:Nat),e=.returned (.pointer (some ⟨hb,0,none⟩))/\w.heap.size<=hb/\w'.heap[hb]?=some (.cells #[.slice none 0 0,.slice none 0 0,.slice none 0 0,.slice none 0 0,.string ⟨mk.toArray⟩,.int .i64 n] 183 (0,0))/\
  w'.heap[wb]?=some (.cells #[pv,.slice ho (hs.length+1) hc,.bool xR,tv,av] 71 (0,0))/\w'.ownsRow b 126 1 (.slice ho (hs.length+1) hc) (hs.length+1) (hs++ [.pointer (some ⟨hb,0,none⟩)])/\
  (∀k,(Value.slice ho (hs.length+1) hc).ownBlock=some k->r=some k\/w.heap.size<=k)/\bG (λk=>k=wb\/r=some k) w w'
theorem Qo(hw:w.heap[wb]?=some (.cells #[pv,hv,.bool xR,tv,av] 71 (0,0)))(hr:w.ownsRow b 126 1 hv hs.length hs)(hl:hs.length<=10000000000000)(oP:b<=w.heap.size):
  Calls prog 132 #[.pointer (some ⟨wb,0,none⟩)] w (U6 wb pv xR tv av b hs hv.ownBlock w):=by
 obtain⟨ho,hc,rfl⟩:=ak hr;have c1:=ae hw 1;have cl:=af hw;have cf:=aj hw;simp at c1;have HW:=aa hw;have HR:=aa hr;clear hw hr
 go_enter func132,ntmps132
 have hcv:=run_convert_bytes_arg (P:=prog) (w.alloc (.cells #[.int .u8 35,.int .u8 ((hs.length:Int)%256),.int .u8 ((hs.length:Int)/256%256),.int .u8 ((hs.length:Int)/65536%256)] 5)) 115 5 underlying115 underlying5 w.heap.size 0 4 4 [35,(hs.length:Int)%256,(hs.length:Int)/256%256,(hs.length:Int)/65536%256] rfl (λi hi=>by
  have:i=0\/i=1\/i=2\/i=3:=by omega
  rcases this with rfl|rfl|rfl|rfl<;>simp) 9 underlying9
 have aaC:strOfNums [35,(hs.length:Int)%256,(hs.length:Int)/256%256,(hs.length:Int)/65536%256]=⟨([35,(hs.length:Int)%256,(hs.length:Int)/256%256,(hs.length:Int)/65536%256].map λn=>UInt8.ofNat n.toNat).toArray⟩:=rfl;rw [aaC]at hcv;clear aaC
 obtain⟨mk,fO⟩:∃mk,mk= [35,(hs.length:Int)%256,(hs.length:Int)/256%256,(hs.length:Int)/65536%256].map λn=>UInt8.ofNat n.toNat:=⟨_,rfl⟩
 rw [<-fO]at hcv;clear fO
 go_upto_region 2 with fail
 go_cut [4] (λv4 wx=>∃(hb:Nat) (n:Int),v4=.pointer (some ⟨hb,0,none⟩)/\w.heap.size<=hb/\Hy (wx.heap[hb]?=some (.cells #[.slice none 0 0,.slice none 0 0,.slice none 0 0,.slice none 0 0,.string ⟨mk.toArray⟩,.int .i64 n] 183 (0,0)))/\Hy (Below w.heap.size w wx))
 case first=>
  go_wp2_with fail
  go_meet
  exact⟨_,_,rfl,by omega,aa (jg _ _ _),aa (((Below.refl _ _).alloc (Nat.le_refl _) _).alloc (by simp) _)⟩
 obtain⟨hb,n,rfl,hlt,HH,HB⟩:=hcut;clear hcv;have Vl:=aa ((HB.o.block _ cl).trans HW.o);have HRc:=aa (aM HR.o λk e=>HB.o.block k (aQ HR.o k e).2);have d1:=(HB.o.cell (p:=⟨wb,1,none⟩) cl).trans c1
 have dl:wb<wc.heap.size:=by have:=HB.o.size;omega
 have hsz:=HB.o.size
 have b1:hs.length+1<=maxLen:=by unfold maxLen;omega
 have b2:(hs.length+1)*8<=140737488355328:=by omega
 obtain⟨i0,nW,hz0,hz1,hz2⟩:=info_parts IJ
 go_wp2_with (at_builtin;refine bC _ rfl _ _ 69 rfl b 126 i0 (.pointer none) 1 8 underlying69 nW hz0 hz1 hz2 rfl (by decide) (.slice ho hs.length hc) hs.length hs rfl (HRc.o.alloc _) ⟨wc.heap.size,0,none⟩ 1 1 [.pointer (some ⟨hb,0,none⟩)] rfl rfl (vH wc _ _) (Ii rfl) (by omega) b1 b2 (by simp;omega) ?_)
 intro g' cap' w6 hown aB aJ;have Gp:=aA aB
 have aaD:(Value.slice ho hs.length hc).ownBlock≠some wb:=λe=>by
  rcases HR.o.2 with⟨hv,_⟩|⟨g,cap,aU,hv,_,hcb,_⟩
  ·rw [hv]at e;simp [Value.ownBlock]at e
  ·rw [hv]at e;simp [Value.ownBlock]at e
   subst e;rw [HW.o]at hcb
   injection hcb with hcb
   injection hcb with _ e _
   exact absurd e (by decide)
 have MI:=(Gp.block _ dl (λe=>aaD e.symm)).trans Vl.o;have hh6:=(Gp.block _ (af HH.o) (λe=>by have:=(aQ HR.o _ e.symm).2;omega)).trans HH.o;have e1:=ae MI 1;have el:=af MI;have ef:=aj MI;simp at e1
 have NC:(Value.slice (some ⟨g',0,none⟩) (hs.length+1) cap').ownBlock≠some wb:=λe=>by
  simp [Value.ownBlock]at e;subst e
  rcases aJ with q|q
  ·exact aaD q
  ·first|omega|(simp at q;omega)
 have fJ:=aa (show U6 wb pv xR tv av b hs (Value.slice ho hs.length hc).ownBlock w (.returned (.pointer (some ⟨hb,0,none⟩))) (w6.setCell ⟨wb,1,none⟩ (.slice (some ⟨g',0,none⟩) (hs.length+1) cap'))from
  ⟨hb,mk,n,some ⟨g',0,none⟩,cap',rfl,hlt,(Below.heap_setCell _ _ _ _ (by show hb≠wb;omega)).trans hh6,ax MI 1 _,a8 hown NC _ _,λk e=>by
   simp [Value.ownBlock]at e;subst e
   rcases aJ with q|q
   ·exact Or.inl q
   ·exact Or.inr (by first|omega|(simp at q;omega)),bG.set (T:=λk=>k=wb\/(Value.slice ho hs.length hc).ownBlock=some k) (b:=wb) (bG.trans (bG.aW HB.o) (bG.mO Gp λk e=>Or.inl (Or.inr e))) (Or.inl (Or.inl rfl)) _ _⟩)
 clear hown aB aJ nW hz0 hz1 hz2 Gp MI hh6 HRc Vl;go_wp2;go_ret;exact fJ.o
theorem Af(m:Nat)(cs:List Value):(kR m cs).length=m*cs.length:=by
 induction m with
 |zero=>simp [kR]
 |succ m ih=>rw [sD,List.length_append,ih,Nat.succ_mul]
theorem Mk(m n:Nat)(h:m<=n)(cs:List Value):(kR n cs).take (m*cs.length)=kR m cs:=by
 obtain⟨k,rfl⟩:∃k,n=m+k:=⟨n-m,by omega⟩
 have:kR (m+k) cs=kR m cs++kR k cs:=by unfold kR;rw [<-List.replicate_append_replicate,List.flatten_append]
 rw [this,List.take_append_of_le_length (by rw [Af];exact Nat.le_refl _),List.take_of_length_le (by rw [Af];exact Nat.le_refl _)]
theorem Dq{t:TypeId}(h:w.ownsRow b t size (.slice (some ⟨g,0,none⟩) n cap) n xs)(hm:m<=n):w.ownsRow b t size (.slice (some ⟨g,0,none⟩) m cap) m (xs.take (m*size)):=by
 have hx:=h.1;have hmn:m*size<=n*size:=Nat.mul_le_mul_right _ hm;refine⟨by rw [List.length_take];omega,?_⟩
 rcases h.2 with⟨e,_⟩|⟨g0,lH,aU,e,hb0,aed,vJ,hcm,hcs,iX⟩
 ·simp at e
 simp only [Value.slice.injEq,Option.some.injEq,Addr.mk.injEq]at e;obtain⟨⟨rfl,_⟩,_,rfl⟩:=e;refine Or.inr ⟨g,cap,aU,rfl,hb0,aed,by omega,hcm,hcs,?_⟩;rw [<-iX,List.take_take,Nat.min_eq_left hmn]
theorem Ml{b':Nat}{t t':TypeId}{n':Nat}{ys:List Value}(hs:0<size)(h:w.ownsRow b t size (.slice (some ⟨g,0,none⟩) n cap) n xs)(h':w.ownsRow b' t' size (.slice (some ⟨g,0,none⟩) n' cap') n' ys):cap=cap':=by
 rcases h.2 with⟨e,_⟩|⟨g0,lH,aU,e,_,aed,_,_,hcs,_⟩
 ·simp at e
 rcases h'.2 with⟨e',_⟩|⟨g1,wO,aea,e',_,U7,_,_,aaE,_⟩
 ·simp at e'
 simp only [Value.slice.injEq,Option.some.injEq,Addr.mk.injEq]at e e';obtain⟨⟨rfl,_⟩,_,rfl⟩:=e;obtain⟨⟨rfl,_⟩,_,rfl⟩:=e';rw [aed]at U7
 injection U7 with hb
 injection hb with hb _ _
 subst hb;rw [hcs]at aaE;exact Nat.eq_of_mul_eq_mul_right hs aaE
def xT(S:Nat->Prop)(w:World)(te:TypeId)(cs:List Value)(lv:Value)(n:Nat)(vs:List Value):Prop:=cW S w te cs.length lv n (kR n cs)/\∀u∈vs,∃m,m<=n/\cW S w te cs.length u m (kR m cs)
theorem xT.keep{te:TypeId}(h:xT S w te cs lv n vs)(hk:∀k,S k->k<w.heap.size->S' k/\w'.heap[k]?=w.heap[k]?):xT S' w' te cs lv n vs:=
 ⟨h.1.keep hk,λu hu=>by obtain⟨m,a,b⟩:=h.2 u hu;exact⟨m,a,b.keep hk⟩⟩
theorem xT.put{te:TypeId}(h:xT S w te cs lv n vs):xT S w te cs lv n (vs++ [lv]):=
 ⟨h.1,λu hu=>by
  rcases List.mem_append.1 hu with hu|hu
  ·exact h.2 u hu
  ·simp at hu;subst hu;exact⟨n,Nat.le_refl _,h.1⟩⟩
theorem xT.fits{te:TypeId}(hc:0<cs.length)(h:xT S w te cs (.slice (some ⟨g,0,none⟩) n cap) n vs)(hr:w'.ownsRow 0 te cs.length (.slice (some ⟨g,0,none⟩) (n+1) cap) (n+1) (kR n cs++cs))(hg:w.grownBy w' (some g)):xT S w' te cs (.slice (some ⟨g,0,none⟩) (n+1) cap) (n+1) vs:=by
 rw [<-sD]at hr;refine⟨⟨hr,λk e=>h.1.2 k e⟩,λu hu=> ?_⟩;obtain⟨m,hm,X4,hu2⟩:=h.2 u hu;refine⟨m,by omega,?_,hu2⟩
 by_cases e:u.ownBlock=some g
 ·obtain⟨uo,uc,rfl⟩:=ak X4
  rcases bZ X4 with⟨e',_⟩|⟨g1,wO,e',_,_,_,_,he⟩
  ·rw [e']at e;simp [Value.ownBlock]at e
  ·rw [e]at he
   injection he with he
   subst he
   injection e' with e1 _ e3
   subst e1 e3;have:=Ml hc X4 h.1.1;subst this;have:=Dq hr (m:=m) (by omega);rw [Mk m (n+1) (by omega)]at this;exact this
 exact aM X4 λk ek=>hg.block k (aQ X4 k ek).2 (λe'=>e (by rw [ek,<-e']))
theorem xT.grows{te:TypeId}{Ap:Value}(h:xT S w te cs lv n vs)(hr:w'.ownsRow b te cs.length Ap (n+1) (kR n cs++cs))(hg:w.grownBy w' none)(hS:∀k,S k->S' k)(hS2:∀k,Ap.ownBlock=some k->S' k):xT S' w' te cs Ap (n+1) vs:=by
 rw [<-sD]at hr;refine⟨⟨cI hr (Nat.zero_le _),hS2⟩,λu hu=> ?_⟩;obtain⟨m,hm,X4⟩:=h.2 u hu;exact⟨m,by omega,X4.keep λk hk hlt=>⟨hS k hk,hg.block k hlt (λe=>by cases e)⟩⟩
theorem xT.marks{t te:TypeId}(h:xT S w te cs lv n vs)(hn:n<=9000000000000000000)(hr:cW S w t 1 v vs.length vs):G3 S w t te cs v vs:=⟨hr,λu hu=>by obtain⟨m,a,b⟩:=h.2 u hu;exact⟨m,by omega,b⟩⟩
theorem aaF{t:TypeId}{a0 a1 a2:Value}(h:w.ownsRow b t 3 (.slice (some ⟨g,0,none⟩) n cap) n (kR i [a0,a1,a2]++xs.drop (i*3)))(hx:xs.length=n*3)(hi:i<n):
  (((w.setCell ⟨g,i*3,none⟩ a0).setCell ⟨g,i*3+1,none⟩ a1).setCell ⟨g,i*3+2,none⟩ a2).ownsRow b t 3 (.slice (some ⟨g,0,none⟩) n cap) n (kR (i+1) [a0,a1,a2]++xs.drop ((i+1)*3)):=by
 have h3:=jQ (jQ (jQ h (i*3) a0) (i*3+1) a1) (i*3+2) a2;have hl:(kR i [a0,a1,a2]).length=i*3:=Af i _
 have hd:∃x0 x1 x2,xs.drop (i*3)=x0::x1::x2::xs.drop ((i+1)*3):=by
  have e0:i*3<xs.length:=by omega
  have e1:i*3+1<xs.length:=by omega
  have e2:i*3+1+1<xs.length:=by omega
  exact⟨_,_,_,by rw [List.drop_eq_getElem_cons e0,List.drop_eq_getElem_cons e1,List.drop_eq_getElem_cons e2,show i*3+1+1+1=(i+1)*3 by omega]⟩
 obtain⟨x0,x1,x2,hd⟩:=hd;rw [hd,List.set_append_right _ _ (by omega),hl,Nat.sub_self,List.set_cons_zero,List.set_append_right _ _ (by omega),hl,show i*3+1-i*3=1 by omega,List.set_append_right _ _ (by omega),hl,show i*3+2-i*3=2 by omega]at h3;rw [sD,List.append_assoc];exact h3
theorem F_:(prog.info? 46).map (λi=>(i.zero,i.size,i.bytes))=some (some (.slice none 0 0),1,24):=by kernel_rfl
structure Kt (T:Nat->Prop) (w:World) (wb hb b:Nat) (wc:Array Value) (hv:Value) (hs:List Value) (hc:Array Value) (wr:World):Prop where
 but:bG T w wr
 Ts:wr.heap[wb]?=some (.cells wc 71 (0,0))
 hrow:wr.ownsRow b 126 1 hv hs.length hs
 aed:wr.heap[hb]?=some (.cells hc 183 (0,0))
 new:w.heap.size<=hb
def kD(w w':World):Prop:=∀(k:Nat) (c:Array Value) (t:TypeId) (f:Nat×Nat),w.heap[k]?=some (.cells c t f)->(t=71\/t=126\/t=183)->w'.heap[k]?=w.heap[k]?
theorem kD.trans{a b c:World}(h:kD a b)(k:kD b c):kD a c:=λi x t f hx ht=>by
 have e:=h i x t f hx ht;exact(k i x t f (e.trans hx) ht).trans e
theorem kD.aW(h:Below w.heap.size w w'):kD w w':=λk c t f hk _=>h.block k (af hk)
theorem kD.set{t:TypeId}(h:w.heap[b]?=some (.cells c t f))(ht:¬(t=71\/t=126\/t=183))(o:Nat)(u:Value):kD w (w.setCell ⟨b,o,none⟩ u):=λk c' t' f' hk Pc=>Below.heap_setCell _ _ _ _ (λe=>by
 have e:k=b:=e;rw [e,h]at hk
 injection hk with hk
 injection hk with _ e _
 exact ht (e▸Pc))
theorem kD.grown{t:TypeId}(h:w.ownsRow b t size v n xs)(ht:¬(t=71\/t=126\/t=183))(hg:w.grownBy w' v.ownBlock):kD w w':=λk c t' f hk Pc=>hg.block k (af hk) λe=>by
 rcases h.2 with⟨rfl,_⟩|⟨g,cap,aU,rfl,_,hc,_⟩
 ·simp [Value.ownBlock]at e
 ·simp [Value.ownBlock]at e
  subst e;rw [hc]at hk
  injection hk with hk
  injection hk with _ e _
  exact ht (e▸Pc)
theorem Kt.go(h:Kt T w wb hb b wc hv hs hc wr)(hk:kD wr w')(hb':bG T w w'):Kt T w wb hb b wc hv hs hc w':=
 ⟨hb',(hk _ _ _ _ h.Ts (Or.inl rfl)).trans h.Ts,aM h.hrow λg e=>by
  rcases h.hrow.2 with⟨hv,_⟩|⟨g',cap,aU,hv,_,hcb,_⟩
  ·rw [hv]at e;simp [Value.ownBlock]at e
  ·rw [hv]at e;simp [Value.ownBlock]at e
   subst e
   exact hk _ _ _ _ hcb (Or.inr (Or.inl rfl)),(hk _ _ _ _ h.aed (Or.inr (Or.inr rfl))).trans h.aed,h.new⟩
theorem Kt.hold(h:Kt T w wb hb b wc hv hs hc wr)(hwb:wb<w.heap.size)(o:Nat)(u:Value):Kt T w wb hb b wc hv hs (hc.setIfInBounds o u) (wr.setCell ⟨hb,o,none⟩ u):=
 ⟨h.but.set (Or.inr h.new) _ _,(Below.heap_setCell _ _ _ _ (by show wb≠hb;have:=h.new;omega)).trans h.Ts,fB h.hrow h.aed (by decide) _ _,ax h.aed o u,h.new⟩
def Qp(S:Nat->Prop)(T:Nat->Prop)(wb b:Nat)(pv:Value)(xR:Bool)(tv av:Value)(hs:List Value)(r:Option Nat)(w:World)(e:Ending)(w':World):Prop:=
 ∃(hb:Nat) (ho:Option Addr) (hc:Nat),e=.returned (.tuple #[])/\w'.heap[wb]?=some (.cells #[pv,.slice ho (hs.length+1) hc,.bool xR,tv,av] 71 (0,0))/\w'.ownsRow b 126 1 (.slice ho (hs.length+1) hc) (hs.length+1) (hs++ [.pointer (some ⟨hb,0,none⟩)])/\
  (∀k,(Value.slice ho (hs.length+1) hc).ownBlock=some k->r=some k\/w.heap.size<=k)/\vG S w' hb/\bG T w w'
theorem xT.aaG{te t':TypeId}(h:xT S w te cs lv n vs)(hg:w.heap[g]?=some (.cells c t' f))(ht:te≠t')(o:Nat)(u:Value):xT S (w.setCell ⟨g,o,none⟩ u) te cs lv n vs:=
 ⟨h.1.set hg ht o u,λx hx=>by obtain⟨m,a,b⟩:=h.2 x hx;exact⟨m,a,b.set hg ht o u⟩⟩
theorem xT.other{te t':TypeId}(h:xT S w te cs lv n vs)(ho:w.ownsRow b t' size v m xs)(ht:te≠t')(hg:w.grownBy w' v.ownBlock):xT S w' te cs lv n vs:=
 ⟨⟨dL h.1.1 ho ht hg,h.1.2⟩,λx hx=>by obtain⟨m,a,b⟩:=h.2 x hx;exact⟨m,a,dL b.1 ho ht hg,b.2⟩⟩
theorem qu{t t':TypeId}(h:w.ownsRow b t size v n xs)(hg:w.heap[g]?=some (.cells c t' f))(ht:t≠t'):v.ownBlock≠some g:=λe=>by
 rcases h.2 with⟨rfl,_⟩|⟨g0,cap,aU,rfl,_,hc,_⟩
 ·simp [Value.ownBlock]at e
 ·simp [Value.ownBlock]at e
  subst e;rw [hg]at hc
  injection hc with hc
  injection hc with _ e _
  exact ht e.symm
theorem Qq{t:TypeId}{c:Nat}(h:w.ownsRow b t size (.slice o n c) n xs):o=none->n=0/\c=0:=by
 rintro rfl
 rcases bZ h with⟨e,_⟩|⟨g,cap,e,_⟩
 ·injection e with _ e2 e3;exact⟨e2,e3⟩
 simp at e
theorem Qr{t:TypeId}{c:Nat}(h:w.ownsRow b t size (.slice o n c) n xs):∀a,o=some a->∀j u,xs[j]?=some u->w.cell? (a.add j)=some u:=by
 rintro a rfl j u hj
 rcases bZ h with⟨e,_⟩|⟨g,cap,e,_,_,_,hc,_⟩
 ·simp at e
 injection e with e1 _ _
 injection e1 with e1
 subst e1
 have wj:j<xs.length:=by rcases List.getElem?_eq_some_iff.1 hj with⟨h,_⟩;exact h
 have hx:=h.1;rw [Addr.add_lit,Nat.zero_add];exact(hc j (by omega)).trans hj
theorem bG.Ag{r:Option Nat}(h:bG T w wr)(hg:wr.grownBy w' r)(hr:∀k,r=some k->T k\/w.heap.size<=k):bG T w w':=
 ⟨hg.os.trans h.os,hg.tape.trans h.tape,hg.output.trans h.output,Nat.le_trans h.size hg.size,λk hk hn=>(hg.block k (Nat.lt_of_lt_of_le hk h.size) (λe=>by rcases hr k e.symm with q|q;exact hn q;omega)).trans (h.block k hk hn)⟩
theorem Dr(hw:w.heap[wb]?=some (.cells #[pv,hv,.bool xR,tv,av] 71 (0,0)))(hr:w.ownsRow b 126 1 hv hs.length hs)(hl:hs.length<=10000000000000)(oP:b<=w.heap.size)(hd:w.ownsRow 0 61 3 lv D.length (b_ D))(N2:D.length<=1000000):
  Calls prog 84 #[.pointer (some ⟨wb,0,none⟩),lv] w (Qp (λk=>lv.ownBlock=some k\/w.heap.size<=k) (λk=>k=wb\/hv.ownBlock=some k\/lv.ownBlock=some k) wb b pv xR tv av hs hv.ownBlock w):=by
 obtain⟨lo,lc,hlv⟩:=ak hd;subst hlv
 obtain⟨T,hT⟩:∃T,T=λk=>k=wb\/hv.ownBlock=some k\/(Value.slice lo D.length lc).ownBlock=some k:=⟨_,rfl⟩
 obtain⟨S,hS⟩:∃S:Nat->Prop,S=λk=>(Value.slice lo D.length lc).ownBlock=some k\/w.heap.size<=k:=⟨_,rfl⟩
 rw [<-hT,<-hS];have HS:=aa hS;have HT:=aa hT;have DA:=af hw;have oZ:=aa (Qo hw hr hl oP);have HD:=aa hd;have xF:=aa (λk (e:(Value.slice lo D.length lc).ownBlock=some k)=>(aQ hd k e).2);have HW0:=aa hw;have Tn:=aa hr;have HDc:=aa (show(b_ D).length=D.length*3 by have:=hd.1;simpa using this);clear hw hr hd hT hS
 go_enter func84,ntmps84
 go_wp2_with fail
 refine oZ.o.mono ?_;rintro e w1 ⟨hb,mk,n,ho,hc,rfl,uE,hH,hW,hR,Tt,mF⟩
 have Ir:=aa (show Kt T w wb hb b #[pv,.slice ho (hs.length+1) hc,.bool xR,tv,av] (.slice ho (hs.length+1) hc) (hs++ [.pointer (some ⟨hb,0,none⟩)]) #[.slice none 0 0,.slice none 0 0,.slice none 0 0,.slice none 0 0,.string ⟨mk.toArray⟩,.int .i64 n] w1 from
  ⟨by rw [HT.o];exact mF.mono λk _ h=>h.elim Or.inl (λh=>Or.inr (Or.inl h)),hW,by rw [List.length_append];exact hR,hH,uE⟩)
 have QW:=aa (show w1.ownsRow 0 61 3 (.slice lo D.length lc) D.length (b_ D)from aM HD.o λk e=>mF.block k (xF.o k e) (λh=>by
  rcases HD.o.2 with⟨hv',_⟩|⟨g,cap,aU,hv',_,hcb,_⟩
  ·rw [hv']at e;simp [Value.ownBlock]at e
  ·rw [hv']at e;simp [Value.ownBlock]at e
   subst e
   rcases h with h|h
   ·rw [h,HW0.o]at hcb
    injection hcb with hcb
    injection hcb with _ e _
    exact absurd e (by decide)
   ·exact vx Tn.o HD.o (by decide) _ h (by rw [hv'];rfl)))
 have Bh:=aa Tt;clear hH hW hR Tt mF oZ HD;obtain⟨wcs,X5⟩:∃c,c=#[pv,Value.slice ho (hs.length+1) hc,.bool xR,tv,av]:=⟨_,rfl⟩;rw [<-X5]at Ir;have Vl:=aa X5;clear X5;obtain⟨hs',X6⟩:∃l,l=hs++ [Value.pointer (some ⟨hb,0,none⟩)]:=⟨_,rfl⟩;rw [<-X6]at Ir;have HHs:=aa X6;clear X6;go_wp2
 go_loopg [5] D.length (λnn v5 wr=>∃i:Nat,nn+i=D.length/\v5=.int .i64 i/\Hy (Kt T w wb hb b wcs (.slice ho (hs.length+1) hc) hs' #[.slice none 0 0,.slice none 0 0,.slice none 0 0,.slice none 0 0,.string ⟨mk.toArray⟩,.int .i64 n] wr)/\Hy (wr.ownsRow 0 61 3 (.slice lo D.length lc) D.length (kR i (MH mk)++(b_ D).drop (i*3))))
 case atStart=>exact⟨0,by omega,rfl,Ir,aa (by simpa [kR]using QW.o)⟩
 obtain⟨i,hi,rfl,HK,HO⟩:=hrel;have aed:=HK.o.aed;have c0:=ae aed 0;have c4:=ae aed 4;have cl:=af aed;have cf:=aj aed;simp at c0 c4;clear aed
 by_cases hlt:i<D.length
 ·have eu:(i:Int)<(D.length:Int):=by omega
  have hmi:(i:Int)+1<=9223372036854775807:=by omega
  rcases bZ HO.o with⟨_,h0⟩|⟨g,cap,hv',_,eP,_,_,xM⟩
  ·omega
  ·injection hv' with v1 v2 v3
   subst v1 v3
   obtain⟨cg,Vm⟩:∃cg,wr.heap[g]?=some (.cells cg 61 (0,0)):=by
    rcases HO.o.2 with⟨e,_⟩|⟨g0,lH,aU,e,_,hcb,_⟩
    ·simp at e
    ·simp only [Value.slice.injEq,Option.some.injEq,Addr.mk.injEq]at e
     obtain⟨⟨rfl,_⟩,_,rfl⟩:=e;exact⟨_,hcb⟩
   have XL:=aj Vm
   have hce:∀o,o<D.length*3->∃u,wr.cell? ⟨g,o,none⟩=some u:=λo ho=>by
    have hl2:=HO.o.1
    rcases bZ HO.o with⟨e,_⟩|⟨g0,lH,e,_,_,_,hcs,_⟩
    ·simp at e
    ·simp only [Value.slice.injEq,Option.some.injEq,Addr.mk.injEq]at e
     obtain⟨⟨rfl,_⟩,_,rfl⟩:=e;rw [hcs o ho,List.getElem?_eq_getElem (by omega)];exact⟨_,rfl⟩
   obtain⟨u0,q0⟩:=hce (i*3) (by omega);obtain⟨u1,q1⟩:=hce (i*3+1) (by omega);obtain⟨u2,q2⟩:=hce (i*3+2) (by omega);have et:=aa (aaF HO.o HDc.o hlt)
   have HTg:T g:=by rw [HT.o];exact Or.inr (Or.inr rfl)
   obtain⟨ca,QD⟩:=mI Vm (i*3) (.string ⟨mk.toArray⟩);obtain⟨cb,hcb⟩:=mI QD (i*3+1) (.int .i64 0);have uQ:=aa (HK.o.go (((kD.set Vm (by decide) (i*3) (.string ⟨mk.toArray⟩)).trans (kD.set QD (by decide) (i*3+1) (.int .i64 0))).trans (kD.set hcb (by decide) (i*3+2) (.int .i64 0))) (((HK.o.but.set (Or.inl HTg) _ _).set (Or.inl HTg) _ _).set (Or.inl HTg) _ _));have Ar:=aa hi;have HHl:=aa hlt;clear hce Vm QD hcb v2 xM HTg hi hlt
   go_upto_region 4 with fail
   go_wp2
   go_roundg (gk-1)
   case measure=>have:=Ar.o;have:=HHl.o;omega
   case rel=>exact⟨i+1,by have:=Ar.o;have:=HHl.o;omega,by go_num,uQ,et⟩
 have eu:¬(i:Int)<(D.length:Int):=by omega
 have hie:i=D.length:=by omega
 have et:=aa (show wr.ownsRow 0 61 3 (.slice lo D.length lc) D.length (kR D.length (MH mk)) by have:=HO.o;rw [hie,List.drop_eq_nil_of_le (by have:=HDc.o;omega),List.append_nil]at this;exact this);have E5:=aa (show xT S wr 61 (MH mk) (.slice lo D.length lc) D.length []from⟨⟨et.o,λk e=>by rw [HS.o];exact Or.inl e⟩,λu hu=>by cases hu⟩);clear HO hi hlt hie QW Ir;have aed:=HK.o.aed
 have b1:0+1<=maxLen:=by unfold maxLen;omega
 have b2:(0+1)*24<=140737488355328:=by omega
 have K7:=HK.o.but.size
 have U8:=aa (λ(w6:World) (kz:Below wr.heap.size wr w6) (g' cap':Nat) (hown:w6.ownsRow w.heap.size 46 1 (.slice (some ⟨g',0,none⟩) 1 cap') 1 [.slice lo D.length lc])=>(show Kt T w wb hb b wcs (.slice ho (hs.length+1) hc) hs' #[.slice (some ⟨g',0,none⟩) 1 cap',.slice none 0 0,.slice none 0 0,.slice none 0 0,.string ⟨mk.toArray⟩,.int .i64 n] (w6.setCell ⟨hb,0,none⟩ (.slice (some ⟨g',0,none⟩) 1 cap'))/\(w6.setCell ⟨hb,0,none⟩ (.slice (some ⟨g',0,none⟩) 1 cap')).ownsRow w.heap.size 46 1 (.slice (some ⟨g',0,none⟩) 1 cap') 1 [.slice lo D.length lc]/\xT S (w6.setCell ⟨hb,0,none⟩ (.slice (some ⟨g',0,none⟩) 1 cap')) 61 (MH mk) (.slice lo D.length lc) D.length [.slice lo D.length lc] by
  have QB:=HK.o.go (kD.aW kz) (HK.o.but.trans (bG.aW kz));refine⟨QB.hold DA 0 _,fB hown QB.aed (by decide) _ _,?_⟩
  exact((E5.o.keep (S':=S) (w':=w6) λk a c=>⟨a,kz.block k c⟩).put).aaG QB.aed (by decide) _ _))
 clear aed;obtain⟨i0,nW,hz0,hz1,hz2⟩:=info_parts F_
 go_wp2_with (at_builtin;refine bC _ rfl _ _ 178 rfl w.heap.size 46 i0 (.slice none 0 0) 1 24 underlying178 nW hz0 hz1 hz2 rfl (by decide) (.slice none 0 0) 0 [] rfl (World.ownsRow_nil _ _ _ _) ⟨wr.heap.size,0,none⟩ 1 1 [.slice lo D.length lc] rfl rfl (vH wr _ _) (Ii rfl) (by omega) b1 b2 (by simp;omega) ?_)
 intro g' cap' w6 hown aB aJ;have kz:Below wr.heap.size wr w6:=dF (aA aB) (λk e=>by simp [Value.ownBlock]at e) (Nat.le_refl _);have AL:=aa (U8.o w6 kz g' cap' (by simpa using hown));have k6:=(kz.block _ cl).trans HK.o.aed;have e0:=ae k6 0;have e4:=ae k6 4;have el:=af k6;have ef:=aj k6;simp at e0 e4;clear hown aB aJ nW hz0 hz1 hz2 kz k6 U8;go_wp2
 go_loopg [1,6] 8 (λnn v1 v6 wr=>∃(i:Nat) (vs:List Value) (tO:Option Addr) (tc:Nat),nn+i=8/\v6=.int .i64 i/\Hy (vs.length<=i+1)/\Hy (Kt T w wb hb b wcs (.slice ho (hs.length+1) hc) hs' #[.slice tO vs.length tc,.slice none 0 0,.slice none 0 0,.slice none 0 0,.string ⟨mk.toArray⟩,.int .i64 n] wr)/\Hy (wr.ownsRow w.heap.size 46 1 (.slice tO vs.length tc) vs.length vs)/\Hy (xT S wr 61 (MH mk) v1 (D.length+i) vs))
 case atStart=>exact⟨0,[.slice lo D.length lc],some ⟨g',0,none⟩,cap',rfl,rfl,aa (Nat.le_refl _),aa AL.o.1,aa AL.o.2.1,aa AL.o.2.2⟩
 obtain⟨i,vs,tO,tc,hi8,rfl,Yy,lM,B1,D7⟩:=hrel;have k6:=lM.o.aed;have e0:=ae k6 0;have e4:=ae k6 4;have el:=af k6;have ef:=aj k6;simp at e0 e4;obtain⟨l1o,Yz,oT⟩:=ak D7.o.1.1;subst oT;have acU:=lM.o.but.size;clear k6
 by_cases hi:i<8
 ·have uV:(i:Int)<8:=by omega
  have M4:vs.length<=9:=by have:=Yy.o;omega
  obtain⟨N,hN⟩:∃N,N=D.length+i:=⟨_,rfl⟩
  have hNl:N<=1000010:=by omega
  rw [<-hN]at D7⊢;have HHN:=aa hN
  have b3:N+1<=maxLen:=by unfold maxLen;omega
  have b4:(N+1)*32<=140737488355328:=by omega
  have b5:vs.length+1<=maxLen:=by unfold maxLen;omega
  have b6:(vs.length+1)*24<=140737488355328:=by omega
  have HH8:=aa hi8
  have HSk:=aa (show ∀k,(Value.slice l1o N Yz).ownBlock=some k->T k\/w.heap.size<=k from λk e=>by
   have:=D7.o.1.2 k e;rw [HS.o]at this;rw [HT.o]
   exact this.elim (λq=>Or.inl (Or.inr (Or.inr q))) Or.inr)
  clear hN hi8
  have JV:=aa (λ(w6:World) (U9:Option Addr) (UA:Nat) (g8 c8:Nat) (w8:World) (hk7:Kt T w wb hb b wcs (.slice ho (hs.length+1) hc) hs' #[.slice tO vs.length tc,.slice none 0 0,.slice none 0 0,.slice none 0 0,.string ⟨mk.toArray⟩,.int .i64 n] w6) (ht7:w6.ownsRow w.heap.size 46 1 (.slice tO vs.length tc) vs.length vs) (YG:xT S w6 61 (MH mk) (.slice U9 (N+1) UA) (N+1) vs)
    (hown:w8.ownsRow w.heap.size 46 1 (.slice (some ⟨g8,0,none⟩) (vs.length+1) c8) (vs.length+1) (vs++ [.slice U9 (N+1) UA])) (hg:w6.grownBy w8 (Value.slice tO vs.length tc).ownBlock)=>(show Kt T w wb hb b wcs (.slice ho (hs.length+1) hc) hs' #[.slice (some ⟨g8,0,none⟩) (vs.length+1) c8,.slice none 0 0,.slice none 0 0,.slice none 0 0,.string ⟨mk.toArray⟩,.int .i64 n] (w8.setCell ⟨hb,0,none⟩ (.slice (some ⟨g8,0,none⟩) (vs.length+1) c8))/\(w8.setCell ⟨hb,0,none⟩ (.slice (some ⟨g8,0,none⟩) (vs.length+1) c8)).ownsRow w.heap.size 46 1 (.slice (some ⟨g8,0,none⟩) (vs.length+1) c8) (vs.length+1) (vs++ [.slice U9 (N+1) UA])/\xT S (w8.setCell ⟨hb,0,none⟩ (.slice (some ⟨g8,0,none⟩) (vs.length+1) c8)) 61 (MH mk) (.slice U9 (N+1) UA) (N+1) (vs++ [.slice U9 (N+1) UA]) by
   have M3:=hk7.go (kD.grown ht7 (by decide) hg) (hk7.but.Ag hg λk e=>Or.inr (aQ ht7 k e).1)
   exact⟨M3.hold DA 0 _,fB hown M3.aed (by decide) _ _,((YG.other ht7 (by decide) hg).put).aaG M3.aed (by decide) _ _⟩))
  obtain⟨j0,L2,Um,Ry,Rz⟩:=info_parts F_;obtain⟨i0,nW,hz0,hz1,hz2⟩:=info_parts pA
  by_cases hroom:N+1<=Yz
  ·rcases bZ D7.o.1.1 with⟨e,_⟩|⟨g1,c1,e,_,xG,_,_,_⟩
   ·injection e with _ _ e3
    omega
   ·injection e with v1 v2 v3
    subst v1 v3;clear v2
    go_wp2_with (at_builtin;refine wpList_append_fits _ rfl _ _ 46 rfl 0 61 i0 3 underlying46 nW hz1 g1 N Yz (kR N (MH mk)) rfl (D7.o.1.1.alloc _) ⟨wr.heap.size,0,none⟩ 1 1 (MH mk) rfl rfl (eU wr _ _ _ _) (zZ rfl rfl rfl) hroom ?_)
    intro w6 r1 r2;have IA:wr.grownBy w6 (some g1):=aA r2;have YW:=aa ((D7.o.keep (S':=S) (w':=wr.alloc (.cells #[.string ⟨mk.toArray⟩,.int .i64 0,.int .i64 0] 61)) λk a c=>⟨a,Below.heap_alloc _ _ _ c⟩).fits (by simp) r1 r2);have Qs:=aa (lM.o.go (kD.grown D7.o.1.1 (by decide) IA) (lM.o.but.Ag IA HSk.o));have X7:=aa (dL B1.o D7.o.1.1 (by decide) IA);clear r1 r2 IA;have k7:=Qs.o.aed;have f0:=ae k7 0;have f4:=ae k7 4;have fl:=af k7;have ff:=aj k7;have acI:=Qs.o.but.size;simp at f0 f4;clear k7 e0 e4 el ef
    go_wp2_with (at_builtin;refine bC _ rfl _ _ 178 rfl w.heap.size 46 j0 (.slice none 0 0) 1 24 underlying178 L2 Um Ry Rz rfl (by decide) (.slice tO vs.length tc) vs.length vs rfl (X7.o.alloc _) ⟨w6.heap.size,0,none⟩ 1 1 [.slice (some ⟨g1,0,none⟩) (N+1) Yz] rfl rfl (vH w6 _ _) (Ii rfl) (by omega) b5 b6 (by simp;omega) ?_)
    intro g8 c8 w8 hown aB aJ;have Lh:=aA aB;have Tq:=aa (JV.o w6 _ _ g8 c8 w8 Qs.o X7.o YW.o hown Lh);have k8:w8.heap[hb]?=w6.heap[hb]?:=Lh.block _ fl (λe=>qu X7.o Qs.o.aed (by decide) e.symm);have Qt:=k8.trans Qs.o.aed;have o0:=ae Qt 0;have o4:=ae Qt 4;have ol:=af Qt;have of:=aj Qt;simp at o0 o4;clear hown aB aJ Lh k8 Qt JV nW hz0 hz1 hz2 L2 Um Ry Rz;go_wp2
    go_roundg (gk-1)
    case measure=>have:=HH8.o;omega
    case rel=>exact⟨i+1,vs++ [.slice (some ⟨g1,0,none⟩) (N+1) Yz],some ⟨g8,0,none⟩,c8,by have:=HH8.o;omega,by go_num,aa (by have:=Yy.o;rw [List.length_append];simp;omega),aa (by rw [List.length_append];exact Tq.o.1),aa (by rw [List.length_append];exact Tq.o.2.1),aa (by rw [show D.length+(i+1)=N+1 by have:=HHN.o;omega];exact Tq.o.2.2)⟩
  ·go_wp2_with (at_builtin;refine wpList_append_grows _ rfl _ _ 46 rfl 61 i0 (.agg #[.string ⟨#[]⟩,.int .i64 0,.int .i64 0]) 3 32 underlying46 nW hz0 hz1 hz2 rfl (by decide) l1o N Yz (kR N (MH mk)) rfl (Qq D7.o.1.1) (D7.o.1.1.1) (Qr (D7.o.1.1.alloc _)) ⟨wr.heap.size,0,none⟩ 1 1 (MH mk) rfl rfl (eU wr _ _ _ _) (zZ rfl rfl rfl) (by omega) b3 b4 ?_)
   intro v' w6 r1 r2;obtain⟨U9,UA,hv'⟩:=ak r1;subst hv';have IA:wr.grownBy w6 none:=aA r2
   have YW:=aa (D7.o.grows (S':=S) r1 IA (λk h=>h) (λk e=>by rw [HS.o];exact Or.inr (by have:=(aQ r1 k e).1;first|omega|(simp at this;omega))))
   have Qs:=aa (lM.o.go (kD.aW ⟨IA.os,IA.tape,IA.output,IA.size,λk hk=>IA.block k hk (λe=>by cases e)⟩) (lM.o.but.Ag IA λk e=>by cases e));have X7:=aa (aM B1.o λk e=>IA.block k (aQ B1.o k e).2 (λe=>by cases e));clear r1 r2 IA;have k7:=Qs.o.aed;have f0:=ae k7 0;have f4:=ae k7 4;have fl:=af k7;have ff:=aj k7;have acI:=Qs.o.but.size;simp at f0 f4;clear k7 e0 e4 el ef
   go_wp2_with (at_builtin;refine bC _ rfl _ _ 178 rfl w.heap.size 46 j0 (.slice none 0 0) 1 24 underlying178 L2 Um Ry Rz rfl (by decide) (.slice tO vs.length tc) vs.length vs rfl (X7.o.alloc _) ⟨w6.heap.size,0,none⟩ 1 1 [.slice (U9) (N+1) UA] rfl rfl (vH w6 _ _) (Ii rfl) (by omega) b5 b6 (by simp;omega) ?_)
   intro g8 c8 w8 hown aB aJ;have Lh:=aA aB;have Tq:=aa (JV.o w6 _ _ g8 c8 w8 Qs.o X7.o YW.o hown Lh);have k8:w8.heap[hb]?=w6.heap[hb]?:=Lh.block _ fl (λe=>qu X7.o Qs.o.aed (by decide) e.symm);have Qt:=k8.trans Qs.o.aed;have o0:=ae Qt 0;have o4:=ae Qt 4;have ol:=af Qt;have of:=aj Qt;simp at o0 o4;clear hown aB aJ Lh k8 Qt JV nW hz0 hz1 hz2 L2 Um Ry Rz;go_wp2
   go_roundg (gk-1)
   case measure=>have:=HH8.o;omega
   case rel=>exact⟨i+1,vs++ [.slice (U9) (N+1) UA],some ⟨g8,0,none⟩,c8,by have:=HH8.o;omega,by go_num,aa (by have:=Yy.o;rw [List.length_append];simp;omega),aa (by rw [List.length_append];exact Tq.o.1),aa (by rw [List.length_append];exact Tq.o.2.1),aa (by rw [show D.length+(i+1)=N+1 by have:=HHN.o;omega];exact Tq.o.2.2)⟩
 have uV:¬(i:Int)<8:=by omega
 have fJ:=aa (show Qp S T wb b pv xR tv av hs hv.ownBlock w (.returned (.tuple #[])) wr from
  ⟨hb,ho,hc,rfl,by rw [<-Vl.o];exact lM.o.Ts,by have:=lM.o.hrow;rw [HHs.o]at this;simpa using this,Bh.o,⟨by rw [HS.o];exact Or.inr uE,mk,n,_,_,_,_,lM.o.aed,⟨vs,D7.o.marks (by omega) ⟨cI B1.o (Nat.zero_le _),λk e=>by rw [HS.o];exact Or.inr (aQ B1.o k e).1⟩⟩,⟨[],G3.nil _ _ _ _ _⟩,⟨[],G3.nil _ _ _ _ _⟩,⟨[],G3.nil _ _ _ _ _⟩⟩,lM.o.but⟩)
 go_wp2
 ((try simp only [Exit.inBlock,Exit.then]);first|refine bodyPost_end (results_none rfl _ _ _) rfl ?_|refine bodyPost_ret (results_none rfl _ _ _) rfl ?_)
 exact fJ.o
structure PD where
 pb:Nat
 p:SP
 rb:Nat
 s:qb
 Lb:List Md
 lv:Value
variable{d:PD}{P:List PD}
structure jw (tg:Nat->Nat) (t:Nat) (w:World) (d:PD):Prop where
 Qu:tg d.pb=t
 blk:w.heap[d.pb]?=some (.cells #[.pointer (some ⟨d.p.sb,0,none⟩),.pointer (some ⟨d.rb,0,none⟩),d.lv] 123 (0,0))
 lsh:∃o n c,d.lv=.slice o n c
 st:cx w {d.p with ex:=λk=>tg k≠0/\¬d.p.own k} d.s
 own:∀k,d.p.own k->tg k=t
 made:E_ d.s
 ref:uu (λk=>tg k=t) w d.rb d.s d.Lb
theorem jw.lt(h:jw tg t w d){k:Nat}(hk:d.p.own k):k<w.heap.size:=h.st.lt (p:={d.p with ex:=λk=>tg k≠0/\¬d.p.own k}) hk
theorem jw.keep(h:jw tg t w d)(hb:bG X w w')(hX:∀k,k<w.heap.size->X k->tg k≠0/\tg k≠t)(ht:∀k,k<w.heap.size->jv k=tg k):jw jv t w' d:=by
 have hl:=af h.blk
 have h1:cx w {d.p with ex:=λk=>jv k≠0/\¬d.p.own k} d.s:=h.st.more (λk=>jv k≠0/\¬d.p.own k) λk hk e=>Or.inr ⟨by rw [<-ht k hk];exact e.1,e.2⟩
 exact⟨by rw [ht _ hl];exact h.Qu,(hb.block _ hl λe=>(hX _ hl e).2 h.Qu).trans h.blk,h.lsh,h1.Bj (λk hk e=>e.2 hk) λk hk hn=>hb.block k hk λe=>hn ⟨by rw [ht k hk];exact(hX k hk e).1,λho=>(hX k hk e).2 (h.own k ho)⟩,λk hk=>by rw [ht k (h.lt hk)];exact h.own k hk,h.made,h.ref.keep λk a b=>⟨by show jv k=t;rw [ht k b];exact a,hb.block k b λe=>(hX k b e).2 a⟩⟩
structure Fz (tg:Nat->Nat) (w:World) (jv:Nat->Nat) (w':World):Prop where
 os:w'.os=w.os
 tape:w'.tape=w.tape
 output:w'.output=w.output
 size:w.heap.size<=w'.heap.size
 block:∀k,k<w.heap.size->tg k=0->jv k=0/\w'.heap[k]?=w.heap[k]?
theorem Fz.trans{aaH:Nat->Nat}{w'':World}(h:Fz tg w jv w')(k:Fz jv w' aaH w''):Fz tg w aaH w'':=
 ⟨k.os.trans h.os,k.tape.trans h.tape,k.output.trans h.output,Nat.le_trans h.size k.size,λi hi h0=>by
  have a:=h.block i hi h0;have b:=k.block i (Nat.lt_of_lt_of_le hi h.size) a.1
  exact⟨b.1,b.2.trans a.2⟩⟩
theorem Fz.but(h:bG X w w')(hX:∀k,k<w.heap.size->X k->tg k≠0)(ht:∀k,k<w.heap.size->tg k=0->jv k=0):Fz tg w jv w':=⟨h.os,h.tape,h.output,h.size,λk hk h0=>⟨ht k hk h0,h.block k hk λe=>hX k hk e h0⟩⟩
theorem Fz.below(h:Below w.heap.size w w'):Fz tg w tg w':=⟨h.os,h.tape,h.output,h.size,λk hk h0=>⟨h0,h.block k hk⟩⟩
theorem Fz.set(hb:tg b≠0)(o:Nat)(u:Value):Fz tg w tg (w.setCell ⟨b,o,none⟩ u):=
 Fz.but (X:=λk=>k=b) (bG.set (T:=λk=>k=b) (b:=b) (bG.refl _ _) (Or.inl rfl) _ _) (λk _ e=>by rw [e];exact hb) (λ_ _ e=>e)
theorem Fz.all(h:Fz tg w jv w')(h0:∀k,k<w.heap.size->tg k=0):Below w.heap.size w w':=⟨h.os,h.tape,h.output,h.size,λk hk=>(h.block k hk (h0 k hk)).2⟩
abbrev qI(l:List Nat):List Value:=l.map λk=> .pointer (some ⟨k,0,none⟩)
structure pI (tg:Nat->Nat) (w:World) (wb:Nat) (P:List PD) (dH:List Nat) (D:List Dg):Prop where
 mem:∃pv hv tv av,w.heap[wb]?=some (.cells #[pv,hv,.bool false,tv,av] 71 (0,0))/\cW (λk=>tg k=1) w 116 1 pv P.length (qI (P.map λd=>d.pb))/\cW (λk=>tg k=1) w 126 1 hv dH.length (qI dH)/\cW (λk=>tg k=2) w 61 3 tv D.length (b_ D)/\cW (λk=>tg k=4) w 61 3 av D.length (b_ D)
 MJ:tg wb=1
 kE:∀i (h:i<P.length),jw tg (5+i) w P[i]
 holds:∀hb∈dH,vG (λk=>tg k=3) w hb
theorem pI.below(h:pI tg w wb P dH D)(hb:Below w.heap.size w w'):pI tg w' wb P dH D:=by
 obtain⟨pv,hv,tv,av,a,b,c,d,e⟩:=h.mem
 have hk:∀{S:Nat->Prop} (k:Nat),S k->k<w.heap.size->S k/\w'.heap[k]?=w.heap[k]?:=λk a b=>⟨a,hb.block k b⟩
 exact⟨⟨pv,hv,tv,av,(hb.block _ (af a)).trans a,b.keep hk,c.keep hk,d.keep hk,e.keep hk⟩,h.MJ,λi hi=>(h.kE i hi).keep (X:=λ_=>False) (bG.aW hb) (λk _ e=>e.elim) (λk _=>rfl),λx hx=>(h.holds x hx).keep hk⟩
theorem Mm(h:pI tg w wb P dH D):Calls prog 34 #[.pointer (some ⟨wb,0,none⟩)] w λe w'=>e=.returned (.bool true)/\Below w.heap.size w w':=by
 obtain⟨pv,hv,tv,av,hw,_,hr,_,_⟩:=h.mem;obtain⟨ho,hc,rfl⟩:=ak hr.1;have HH:=aa h.holds;have HW:=aa hw;have HR:=aa hr.1;have HM:=aa (rM hr.1);have DA:=af hw;clear h hw hr
 go_enter func34,ntmps34
 go_wp2
 go_loopg [3] dH.length (λnn v3 wr=>∃i:Nat,nn+i=dH.length/\v3=.int .i64 i/\Hy (Below w.heap.size w wr))
 case atStart=>exact⟨0,by omega,rfl,aa (Below.refl _ _)⟩
 obtain⟨i,hi,rfl,HB⟩:=hrel;have hb:=(HB.o.block _ DA).trans HW.o;have c1:=ae hb 1;have c2:=ae hb 2;have cl:=af hb;simp at c1 c2;clear hb
 by_cases hlt:i<dH.length
 ·have eu:(i:Int)<(dH.length:Int):=by omega
  have hmi:(i:Int)+1<=9223372036854775807:=by have:=HM.o;omega
  have hrr:=aM HR.o λk e=>HB.o.block k (aQ HR.o k e).2
  obtain⟨g,cap,hv,eP,hcell⟩:=k_ (vs:=qI dH) (by simpa using hrr) i (by simpa using hlt)
  injection hv with v1 v2 v3
  subst v1 v3;rw [List.getElem_map]at hcell;have HMk:=aa (IH ((HH.o dH[i] (List.getElem_mem hlt)).keep (S':=λk=>tg k=3) (w':=wr) λk a b=>⟨a,HB.o.block k b⟩));have Ar:=aa hi;clear hrr v2 hi;generalize dH[i]=x at*
  go_wp2_with fail
  refine HMk.o.mono ?_;rintro e w3 ⟨rfl,hb3⟩;have dy:=aa (HB.o.trans (hb3.mono HB.o.size));clear hb3;go_wp2
  go_roundg (gk-1)
  case measure=>have:=Ar.o;omega
  case rel=>exact⟨i+1,by have:=Ar.o;omega,by go_num,dy⟩
 have eu:¬(i:Int)<(dH.length:Int):=by omega
 go_wp2;go_ret;exact⟨rfl,HB.o⟩
theorem IK:(prog.info? 116).map (λi=>(i.zero,i.size,i.bytes))=some (some (.pointer none),1,8):=by kernel_rfl
def AU(tg:Nat->Nat)(n t:Nat):Nat->Nat:=λk=>if k<n then tg k else t
theorem jf(h:k<n):AU tg n t k=tg k:=if_pos h
theorem vI(h:n<=k):AU tg n t k=t:=if_neg (by omega)
theorem uu.empty(hS:S sb)(h:w.heap[sb]?=some (.cells #[.slice none 0 0,.slice none 0 0,.slice none 0 0,.bool false] 121 (0,0))):uu S w sb ig []:=
 ⟨hS,[],[],.slice none 0 0,.slice none 0 0,.slice none 0 0,h,⟨[],⟨World.ownsRow_nil _ _ _ _,λg e=>by simp [Value.ownBlock]at e⟩,λj hj=>absurd hj (by simp)⟩,oN.nil,⟨World.ownsRow_nil _ _ _ _,λg e=>by simp [Value.ownBlock]at e⟩,⟨[],⟨World.ownsRow_nil _ _ _ _,λg e=>by simp [Value.ownBlock]at e⟩,λj hj=>absurd hj (by simp)⟩,rfl,λj hj=>absurd hj (by simp)⟩
theorem cx.aaI{p:SP}(h:cx w p ig)(ex:Nat->Prop):cx w {p with ex:=ex} ig:=
 ⟨by obtain⟨ip,a,b⟩:=h.blk;exact⟨ip,a,b⟩,h.g_,by obtain⟨ov,a,_⟩:=h.mP;exact⟨ov,a,λm hm=>by cases hm⟩,h.comp,h.n1,h.n2,h.n3,h.ku,h.small⟩
theorem Mn:E_ ig:=λm hm=>by cases hm
def Qv(tg:Nat->Nat)(wb:Nat)(P:List PD)(dH:List Nat)(D:List Dg)(w:World)(e:Ending)(w':World):Prop:=∃jv d,e=.returned (.bool true)/\pI jv w' wb (P++ [d]) dH D/\Fz tg w jv w'/\d.s=ig/\d.Lb= []
theorem Tu(w:World)(o1 o2:Obj)(a:Value)(t:TypeId):∀j u,[a][j]?=some u->(((w.alloc o1).alloc o2).alloc (.cells #[a] t)).cell? ((⟨w.heap.size+1+1,0,none⟩:Addr).add j)=some u:=by
 have h:=vH ((w.alloc o1).alloc o2) a t
 have e:((w.alloc o1).alloc o2).heap.size=w.heap.size+1+1:=by simp
 rw [e]at h;exact h
theorem Mo{w6:World}{po:Option Addr}{pc g':Nat}(h:pI tg w wb P dH D)(hw:w.heap[wb]?=some (.cells #[.slice po P.length pc,hv,.bool false,tv,av] 71 (0,0)))(hr:cW (λk=>tg k=1) w 116 1 (.slice po P.length pc) P.length (qI (P.map λd=>d.pb)))(hb1:Below w.heap.size w w1)(hst:cx w1 p ig)(hown:∀k,p.own k->w.heap.size<=k)(hex:∀k,¬p.ex k)(ho:w6.ownsRow 0 116 1 (.slice (some ⟨g',0,none⟩) (P.length+1) cap') (P.length+1) (qI (P.map λd=>d.pb)++ [.pointer (some ⟨w1.heap.size+1,0,none⟩)]))(hg:(((w1.alloc (.cells #[.slice none 0 0,.slice none 0 0,.slice none 0 0,.bool false] 121)).alloc (.cells #[.pointer (some ⟨p.sb,0,none⟩),.pointer (some ⟨w1.heap.size,0,none⟩),.slice none 0 0] 123)).alloc (.cells #[.pointer (some ⟨w1.heap.size+1,0,none⟩)] 116)).grownBy w6 (Value.slice po P.length pc).ownBlock)(Tt:(Value.slice po P.length pc).ownBlock=some g'\/w1.heap.size+1+1+1<=g'):
  Qv tg wb P dH D w (.returned (.bool true)) (w6.setCell ⟨wb,0,none⟩ (.slice (some ⟨g',0,none⟩) (P.length+1) cap')):=by
 have DA:=af hw;have hsz:=hb1.size
 have B0:∀k,(Value.slice po P.length pc).ownBlock=some k->tg k=1/\k<w.heap.size:=λk e=>⟨hr.2 k e,(aQ hr.1 k e).2⟩
 have X8:((Value.slice po P.length pc).ownBlock=some g')\/w1.heap.size+3<=g':=Tt.imp id λq=>by omega
 have xG:=aA (aA (aA hg))
 have aaJ:∀k,k<w1.heap.size+3->w.heap.size<=k->w6.heap[k]?=((((w1.alloc (.cells #[.slice none 0 0,.slice none 0 0,.slice none 0 0,.bool false] 121)).alloc (.cells #[.pointer (some ⟨p.sb,0,none⟩),.pointer (some ⟨w1.heap.size,0,none⟩),.slice none 0 0] 123)).alloc (.cells #[.pointer (some ⟨w1.heap.size+1,0,none⟩)] 116))).heap[k]?:=λk h1 h2=>hg.block k (by simp;omega) (λe=>by have:=(B0 k e.symm).2;omega)
 have hA:w6.heap[w1.heap.size]?=some (.cells #[.slice none 0 0,.slice none 0 0,.slice none 0 0,.bool false] 121 (0,0)):=(aaJ _ (by omega) hsz).trans (aI (aI (aF _ _) _) _);have hB:w6.heap[w1.heap.size+1]?=some (.cells #[.pointer (some ⟨p.sb,0,none⟩),.pointer (some ⟨w1.heap.size,0,none⟩),.slice none 0 0] 123 (0,0)):=(aaJ _ (by omega) (by omega)).trans (aI (jg _ _ _) _);have hne:(Value.slice po P.length pc).ownBlock≠some wb:=qu hr.1 hw (by decide);have MI:=(xG.block _ (by omega) (λe=>hne e.symm)).trans ((hb1.block _ DA).trans hw)
 -- aeh was done,seen from w
 obtain⟨X,JW⟩:∃X:Nat->Prop,X=λk=>k=wb\/(Value.slice po P.length pc).ownBlock=some k:=⟨_,rfl⟩
 obtain⟨w',hw'⟩:∃w',w'=w6.setCell ⟨wb,0,none⟩ (.slice (some ⟨g',0,none⟩) (P.length+1) cap'):=⟨_,rfl⟩
 have mF:bG X w w':=by
  rw [hw'];exact bG.set (b:=wb) (bG.Ag (T:=X) (bG.aW hb1) xG λk e=>Or.inl (by rw [JW];exact Or.inr e)) (Or.inl (by rw [JW];exact Or.inl rfl)) _ _
 have hX1:∀k,X k->tg k=1:=λk hk=>by
  rw [JW]at hk
  rcases hk with rfl|hk
  ·exact h.MJ
  ·exact(B0 k hk).1
 have hXn:∀k,X k->tC w k:=λk hk=>by
  rw [JW]at hk
  rcases hk with rfl|hk
  ·exact tC.cells hw (by unfold Ae;decide)
  ·rcases hr.1.2 with⟨e,_⟩|⟨g0,lH,aU,e,_,hcb,_⟩
   ·rw [e]at hk;simp [Value.ownBlock]at hk
   ·rw [e]at hk;simp [Value.ownBlock]at hk
    subst hk;exact tC.cells hcb (by unfold Ae;decide)
 obtain⟨jv,Qw⟩:∃jv:Nat->Nat,jv=λk=>if k<w.heap.size then tg k else if k=g' then 1 else 5+P.length:=⟨_,rfl⟩
 have oI:∀k,k<w.heap.size->jv k=tg k:=λk hk=>by rw [Qw];exact if_pos hk
 have AV:∀k,w.heap.size<=k->k≠g'->jv k=5+P.length:=λk hk hn=>by rw [Qw];show(if k<w.heap.size then _ else _)=_;rw [if_neg (by omega),if_neg hn]
 have tG:jv g'=1:=by
  rcases X8 with q|q
  ·rw [oI _ (B0 _ q).2];exact(B0 _ q).1
  ·rw [Qw];show(if g'<w.heap.size then _ else _)=_;rw [if_neg (by omega),if_pos rfl]
 have hgn:∀k,k<w1.heap.size+3->w.heap.size<=k->k≠g':=λk h1 h2 e=>by
  subst e
  rcases X8 with q|q
  ·have:=(B0 _ q).2;omega
  ·omega
 have lD:∀(t:Nat),t≠1->∀k,tg k=t->k<w.heap.size->jv k=t/\w'.heap[k]?=w.heap[k]?:=λt ht k a b=>⟨by rw [oI k b];exact a,mF.block k b λe=>ht (by rw [<-a];exact hX1 k e)⟩
 obtain⟨pv0,hv0,tv0,av0,a0,b0,c0,d0,e0⟩:=h.mem;rw [hw]at a0
 injection a0 with a0
 injection a0 with a0 _ _
 simp only [Array.mk.injEq,List.cons.injEq,and_true]at a0;obtain⟨rfl,rfl,_,rfl,rfl⟩:=a0
 have X9:w'.heap[wb]?=some (.cells #[.slice (some ⟨g',0,none⟩) (P.length+1) cap',hv,.bool false,tv,av] 71 (0,0)):=by rw [hw'];exact ax MI 0 _
 rw [<-hw']
 have T9:g'≠wb:=λe=>by
  subst e
  rcases X8 with q|q
  ·exact hne q
  ·omega
 refine⟨jv,⟨w1.heap.size+1,p,w1.heap.size,ig,[],.slice none 0 0⟩,rfl,⟨⟨_,hv,tv,av,X9,?_,?_,d0.keep (lD 2 (by omega)),e0.keep (lD 4 (by omega))⟩,by rw [oI _ DA];exact h.MJ,λi hi=> ?_,λx hx=>(h.holds x hx).keep (lD 3 (by omega))⟩,Fz.but mF (λk _ e=>by have:=hX1 k e;omega) (λk hk e=>by rw [oI k hk];exact e),rfl,rfl⟩
 ·refine⟨?_,λk e=>by simp [Value.ownBlock]at e;subst e;exact tG⟩
  rw [hw',List.length_append,List.map_append];show World.ownsRow _ _ _ _ _ _ (qI (List.map (λd=>d.pb) P++ [w1.heap.size+1]));rw [show qI (List.map (λd=>d.pb) P++ [w1.heap.size+1])=qI (P.map λd=>d.pb)++ [.pointer (some ⟨w1.heap.size+1,0,none⟩)] by simp];exact a8 ho (λe=>by simp [Value.ownBlock]at e;exact T9 e) _ _
 ·refine⟨?_,λk e=>by show jv k=1;rw [oI k (aQ c0.1 k e).2];exact c0.2 k e⟩
  refine aM c0.1 λk e=>mF.block k (aQ c0.1 k e).2 λq=> ?_
  rw [JW]at q
  rcases q with rfl|q
  ·exact qu c0.1 hw (by decide) e
  ·exact vx c0.1 hr.1 (by decide) k e q
 by_cases hlt:i<P.length
 ·rw [List.getElem_append_left hlt]
  exact(h.kE i hlt).keep mF (λk _ e=>by have:=hX1 k e;omega) oI
 have hie:i=P.length:=by simp at hi;omega
 subst hie;rw [List.getElem_append_right (Nat.le_refl _)];simp only [Nat.sub_self,List.getElem_cons_zero]
 have hold:∀k,p.own k->k<w1.heap.size:=λk hk=>hst.lt hk
 have kN:∀k,k<w1.heap.size+3->w.heap.size<=k->w'.heap[k]?=w6.heap[k]?:=λk h1 h2=>by rw [hw'];exact Below.heap_setCell _ _ _ _ (by show k≠wb;omega)
 have acJ:cx w' p ig:=by
  have acK:bG X w1 w':=by
   rw [hw'];exact bG.set (b:=wb) (bG.Ag (T:=X) (bG.refl X w1) xG λk e=>Or.inl (by rw [JW];exact Or.inr e)) (Or.inl (by rw [JW];exact Or.inl rfl)) _ _
  have hlX:∀k,X k->k<w.heap.size:=λk hk=>by
   rw [JW]at hk
   rcases hk with rfl|hk
   ·exact DA
   ·exact(B0 k hk).2
  exact hst.skip (λk hk c t f hc=>hXn k hk c t f ((hb1.block k (hlX k hk)).symm.trans hc)) (λk hk e=>by have:=hown k hk;have:=hlX k e;omega) hex acK
 exact⟨AV _ (by show _<=w1.heap.size+1;omega) (hgn _ (by show w1.heap.size+1<_;omega) (by show _<=w1.heap.size+1;omega)),(kN _ (by show w1.heap.size+1<_;omega) (by show _<=w1.heap.size+1;omega)).trans hB,⟨_,_,_,rfl⟩,acJ.aaI _,λk hk=>AV k (hown k hk) (hgn k (by have:=hold k hk;omega) (hown k hk)),Mn,uu.empty (AV _ hsz (hgn _ (by show w1.heap.size<_;omega) hsz)) ((kN _ (by show w1.heap.size<_;omega) hsz).trans hA)⟩
theorem Ch(h:pI tg w wb P dH D)(hP:P.length<=10000000000000):Calls prog 32 #[.pointer (some ⟨wb,0,none⟩)] w (Qv tg wb P dH D w):=by
 obtain⟨pv,hv,tv,av,hw,hr,_,_,_⟩:=h.mem;obtain⟨po,pc,rfl⟩:=ak hr.1;have HA:=aa h;have HW:=aa hw;have HR:=aa hr;have DA:=af hw;clear h hw hr
 go_enter func32,ntmps32
 go_wp2_with fail
 refine(R9 w).mono ?_;rintro e w1 ⟨p,rfl,hb1,hst,hown,hex⟩;have eC:=aa hb1;have oD:=aa hst;have Cv:=aa hown;have Hf:=aa hex;have Mv:=(hb1.block _ DA).trans HW.o;have c0:=ae Mv 0;have cl:=af Mv;simp at c0;clear hb1 hst hown hex Mv;have pF:=aa (aM HR.o.1 λk e=>eC.o.block k (aQ HR.o.1 k e).2)
 have b1:P.length+1<=maxLen:=by unfold maxLen;omega
 have b2:(P.length+1)*8<=140737488355328:=by omega
 have hsz:=eC.o.size;obtain⟨i0,nW,hz0,hz1,hz2⟩:=info_parts IK
 go_wp2_with (at_builtin;refine bC _ rfl _ _ 68 rfl 0 116 i0 (.pointer none) 1 8 underlying68 nW hz0 hz1 hz2 rfl (by decide) (.slice po P.length pc) P.length (qI (P.map λd=>d.pb)) rfl (((pF.o.alloc _).alloc _).alloc _) ⟨w1.heap.size+1+1,0,none⟩ 1 1 [.pointer (some ⟨w1.heap.size+1,0,none⟩)] rfl rfl (Tu w1 _ _ _ _) (Ii rfl) (by omega) b1 b2 (Nat.zero_le _) ?_)
 intro g' cap' w6 hown aB aJ;have HG:=aa aB;have HO:=aa hown;have Bh:=aa aJ;have hne:(Value.slice po P.length pc).ownBlock≠some wb:=qu HR.o.1 HW.o (by decide);have xG:=aA (aA (aA aB));have MI:=(xG.block _ cl (λe=>hne e.symm)).trans ((eC.o.block _ DA).trans HW.o);have e0:=ae MI 0;have el:=af MI;have ef:=aj MI;simp at e0
 have UB:w6.ownsRow 0 116 1 (.slice (some ⟨g',0,none⟩) (P.length+1) cap') (P.length+1) (qI (P.map λd=>d.pb)++ [.pointer (some ⟨w1.heap.size+1,0,none⟩)]):=by simpa using hown
 have fJ:=aa (Mo HA.o HW.o HR.o eC.o oD.o Cv.o Hf.o UB aB aJ);clear UB;clear hown aB aJ nW hz0 hz1 hz2 xG MI HG HO Bh;go_wp2;go_ret;exact fJ.o
abbrev aaK(t:TypeId):Prop:=Qk t\/t=121\/t=9
def tE(w:World)(k:Nat):Prop:=∃c t f,w.heap[k]?=some (.cells c t f)/\aaK t
theorem cW.typed{t:TypeId}(h:cW S w t size v n xs)(ht:aaK t):cW (λk=>S k/\tE w k) w t size v n xs:=
 ⟨h.1,λg e=>⟨h.2 g e,by
  rcases h.1.2 with⟨rfl,_⟩|⟨g',cap,aU,rfl,_,hc,_⟩
  ·simp [Value.ownBlock]at e
  ·simp [Value.ownBlock]at e
   subst e
   exact⟨_,_,_,hc,ht⟩⟩⟩
theorem jr.typed{iv fv:Value}{m:RM}(h:jr S w lv iv fv m):jr (λk=>S k/\tE w k) w lv iv fv m:=by
 refine⟨h.sh,λhb=> ?_⟩;obtain⟨⟨g0,cap,a,b,d⟩,hi,xs,hf,hx⟩:=h.ok hb;obtain⟨c',f',q⟩:=d.type
 exact⟨⟨g0,cap,a,⟨b,_,_,_,q,by decide⟩,d⟩,hi.typed (by decide),xs,hf.typed (by decide),λj hj=>by
  obtain⟨pv,kv,p,q,r⟩:=hx j hj
  exact⟨pv,kv,p,q.typed (by decide),r.typed (by decide)⟩⟩
theorem uu.typed(h:uu S w sb s Lb):uu (λk=>S k/\tE w k) w sb s Lb:=by
 obtain⟨hs,l,ms,lv,kv,iv,a,⟨xs,b1,b2⟩,c,d,⟨ys,e1,e2⟩,f⟩:=h;exact⟨⟨hs,_,_,_,a,by decide⟩,l,ms,lv,kv,iv,a,⟨xs,b1.typed (by decide),λj hj=>by obtain⟨uv,p,q,r⟩:=b2 j hj;exact⟨uv,p,q,λhx=>(r hx).typed (by decide)⟩⟩,c,d.typed (by decide),⟨ys,e1.typed (by decide),λj hj=>by obtain⟨Ap,QV,ES,p,q⟩:=e2 j hj;exact⟨Ap,QV,ES,p,q.typed⟩⟩,f⟩
theorem cx.UC(h:cx w p s)(hk:p.own k):¬tE w k:=by
 rintro⟨c,t,f,hc,ht⟩;obtain⟨ip,hb,_⟩:=h.blk;obtain⟨ov,ho,_⟩:=h.mP
 rcases hk with rfl|rfl|rfl|rfl
 ·rw [hb]at hc
  injection hc with hc
  injection hc with _ e _
  subst e;exact absurd ht (by decide)
 ·obtain⟨a,b,q⟩:=h.g_.isMap;rw [q]at hc;cases hc
 ·obtain⟨a,b,q⟩:=ho.isMap;rw [q]at hc;cases hc
 obtain⟨a,b,q⟩:=h.comp.isMap;rw [q]at hc;cases hc
theorem jw.Ah(h:jw tg t w d)(hb:bG d.p.own w w1):uu (λk=>tg k=t/\tE w k/\k<w.heap.size) w1 d.rb d.s d.Lb:=
 h.ref.typed.keep λk a b=>⟨⟨a.1,a.2,b⟩,hb.block k b λe=>h.st.UC (p:={d.p with ex:=λk=>tg k≠0/\¬d.p.own k}) e a.2⟩
theorem cx.tagged{p:SP}(h:cx w1 {p with ex:=λk=>tg k≠0/\¬p.own k} s):cx w1 {p with ex:=λk=>AU tg w.heap.size 0 k≠0/\¬p.own k} s:=
 h.more (λk=>AU tg w.heap.size 0 k≠0/\¬p.own k) λk hk e=>Or.inr ⟨by
  by_cases hlt:k<w.heap.size
  ·rw [jf hlt]at e;exact e.1
  ·rw [vI (by omega)]at e;exact absurd rfl e.1,e.2⟩
theorem pI.both(h:pI tg w wb P dH D)(hi:i<P.length){s':qb}{Lb':List Md}(ht1:∀k,k<w.heap.size->xS k=tg k)(hb1:bG P[i].p.own w w1)(st1:cx w1 {P[i].p with ex:=λk=>xS k≠0/\¬P[i].p.own k} s')(hm:E_ s')(hb2:bG (λk=>tg k=5+i/\tE w k/\k<w.heap.size) w1 w2)(r2:uu (λk=>(tg k=5+i/\tE w k/\k<w.heap.size)\/w1.heap.size<=k) w2 P[i].rb s' Lb'):pI (AU xS w1.heap.size (5+i)) w2 wb (P.set i {P[i]with s:=s',Lb:=Lb'}) dH D:=by
 have hp:=h.kE i hi;have hs1:=hb1.size;have hs2:=hb2.size
 have oI:∀k,k<w.heap.size->AU xS w1.heap.size (5+i) k=tg k:=λk hk=>by rw [jf (by omega),ht1 k hk]
 have hX:∀k,k<w.heap.size->tg k≠5+i->w2.heap[k]?=w.heap[k]?:=λk hk ht=>(hb2.block k (by omega) (λe=>ht e.1)).trans (hb1.block k hk λe=>ht (hp.own k e))
 have lD:∀(t:Nat),t≠5+i->∀k,tg k=t->k<w.heap.size->AU xS w1.heap.size (5+i) k=t/\w2.heap[k]?=w.heap[k]?:=λt ht k a b=>⟨by rw [oI k b];exact a,hX k b (by rw [a];exact ht)⟩
 obtain⟨pv,hv,tv,av,a,b,c,d,e⟩:=h.mem;have DA:=af a;refine⟨⟨pv,hv,tv,av,(hX _ DA (by rw [h.MJ];omega)).trans a,?_,c.keep (lD 1 (by omega)),d.keep (lD 2 (by omega)),e.keep (lD 4 (by omega))⟩,by rw [oI _ DA];exact h.MJ,λj hj=> ?_,λx hx=>(h.holds x hx).keep (lD 3 (by omega))⟩
 ·have e1:(P.set i {P[i]with s:=s',Lb:=Lb'}).map (λd=>d.pb)=P.map λd=>d.pb:=by
   apply List.ext_getElem
   ·simp
   ·intro j h1 h2
    simp only [List.getElem_map,List.getElem_set]
    split
    ·next e=>subst e;rfl
    ·rfl
  rw [e1,List.length_set];exact b.keep (lD 1 (by omega))
 rw [List.length_set]at hj
 by_cases ej:i=j
 ·subst ej
  rw [List.getElem_set_self];have hpl:=af hp.blk
  have hpn:¬tE w P[i].pb:=by
   rintro⟨c,t,f,hc,ht⟩;rw [hp.blk]at hc
   injection hc with hc
   injection hc with _ e _
   subst e;exact absurd ht (by decide)
  have hpo:¬P[i].p.own P[i].pb:=λe=>by
   obtain⟨ip,hb,_⟩:=hp.st.blk;obtain⟨ov,ho,_⟩:=hp.st.mP;have jX:=hp.blk
   rcases e with e|e|e|e
   ·rw [e]at jX
    have hb':w.heap[P[i].p.sb]?=some (.cells #[.map (some P[i].p.mb),.map (some P[i].p.ob),.map (some P[i].p.cb),.pointer ip] 84 (0,0)):=hb;rw [hb']at jX
    injection jX with jX
    injection jX with _ e _
    exact absurd e (by decide)
   ·obtain⟨a,b,q⟩:=hp.st.g_.isMap;rw [e]at jX;exact absurd (jX.symm.trans q) (by simp)
   ·obtain⟨a,b,q⟩:=ho.isMap;rw [e]at jX;exact absurd (jX.symm.trans q) (by simp)
   ·obtain⟨a,b,q⟩:=hp.st.comp.isMap;rw [e]at jX;exact absurd (jX.symm.trans q) (by simp)
  have hst:cx w1 {P[i].p with ex:=λk=>AU xS w1.heap.size (5+i) k≠0/\¬P[i].p.own k} s':=st1.more (λk=>AU xS w1.heap.size (5+i) k≠0/\¬P[i].p.own k) λk hk e=>Or.inr ⟨by rw [jf hk]at e;exact e.1,e.2⟩
  refine⟨by show AU xS w1.heap.size (5+i) P[i].pb=_;rw [oI _ hpl];exact hp.Qu,(hb2.block _ (by omega) λe=>hpn e.2.1).trans ((hb1.block _ hpl hpo).trans hp.blk),hp.lsh,?_,λk hk=>by show AU xS w1.heap.size (5+i) k=_;rw [oI _ (hp.lt hk)];exact hp.own k hk,hm,r2.keep λk q _=>⟨?_,rfl⟩⟩
  ·exact hst.Bj (λk hk e=>e.2 hk) λk hk hn=>hb2.block k hk λe=>hn ⟨by show AU xS w1.heap.size (5+i) k≠0;rw [oI k e.2.2,e.1];omega,λho=>hp.st.UC (p:={P[i].p with ex:=λk=>tg k≠0/\¬P[i].p.own k}) ho e.2.1⟩
  ·show AU xS w1.heap.size (5+i) k=_
   rcases q with q|q
   ·rw [oI k q.2.2];exact q.1
   ·exact vI q
 rw [List.getElem_set_ne ej];exact(h.kE j hj).keep (X:=λk=>tg k=5+i) ⟨hb2.os.trans hb1.os,hb2.tape.trans hb1.tape,hb2.output.trans hb1.output,by omega,λk hk hn=>hX k hk hn⟩ (λk _ e=>by omega) oI
theorem pI.IL(h:pI tg w wb P dH D)(hi:i<P.length)(ht1:∀k,k<w.heap.size->xS k=tg k)(hb1:bG P[i].p.own w w1)(hb2:bG (λk=>tg k=5+i/\tE w k/\k<w.heap.size) w1 w2):Fz tg w (AU xS w1.heap.size (5+i)) w2:=
 have hp:=h.kE i hi;have hs1:=hb1.size;have hs2:=hb2.size
 ⟨hb2.os.trans hb1.os,hb2.tape.trans hb1.tape,hb2.output.trans hb1.output,by omega,λk hk h0=>⟨by rw [jf (by omega),ht1 k hk];exact h0,(hb2.block k (by omega) λe=>by have:=e.1;omega).trans (hb1.block k hk λe=>by have:=hp.own k e;omega)⟩⟩
def UD(tg:Nat->Nat)(w:World)(f:Nat)(args:Array Value)(c:Nat)(d:PD)(wb:Nat)(P:List PD)(dH:List Nat)(D:List Dg)(e:Ending)(w1:World):Prop:=e=.returned (.int .i64 (c:Nat))/\w.heap.size<=w1.heap.size/\(∀k,k<w.heap.size->¬d.p.own k->w1.heap[k]?=w.heap[k]?)/\∀wd,Below w1.heap.size w1 wd->Calls prog f args wd λe w2=>e=.returned (.int .i64 (c:Nat))/\∃xU,pI xU w2 wb P dH D/\Fz tg w xU w2
theorem pI.lt(h:pI tg w wb P dH D):wb<w.heap.size:=by
 obtain⟨_,_,_,_,a,_⟩:=h.mem;exact af a
theorem Qx(h:pI tg w wb P dH D)(hi:i<P.length)(n t:List UInt8)(hn:n.length<=140737488355328)(ht:t.length<=140737488355328):
  Calls prog 35 #[.pointer (some ⟨P[i].p.sb,0,none⟩),.string ⟨n.toArray⟩,.string ⟨t.toArray⟩] w (UD tg w 51 #[.pointer (some ⟨P[i].rb,0,none⟩),.string ⟨n.toArray⟩,.string ⟨t.toArray⟩] (nP P[i].s n t).1 P[i] wb (P.set i {P[i]with s:=(nP P[i].s n t).2}) dH D):=by
 have hp:=h.kE i hi;refine(Sg hp.st n hn t ht).mono ?_;rintro e w1 ⟨rfl,hb1,st1⟩;have rL:bG P[i].p.own w w1:=hb1;refine⟨rfl,rL.size,λk hk hn=>rL.block k hk hn,?_⟩;intro wd hd;have sG:bG P[i].p.own w wd:=rL.trans (bG.aW hd);have std:=st1.below hd;refine(Qj (hp.Ah sG) hp.st.rising hp.st.ku.1 n t hn ht).mono ?_;rintro e w2 ⟨rfl,hb2,r2⟩;exact⟨rfl,_,h.both hi (λk hk=>jf hk) sG std.tagged (hp.made.set n t) hb2 r2,h.IL hi (λk hk=>jf hk) sG hb2⟩
theorem Ga(h:pI tg w wb P dH D)(hi:i<P.length)(n:List UInt8)(hn:n.length<=140737488355328):
  Calls prog 28 #[.pointer (some ⟨P[i].p.sb,0,none⟩),.string ⟨n.toArray⟩] w (UD tg w 52 #[.pointer (some ⟨P[i].rb,0,none⟩),.string ⟨n.toArray⟩] (ub P[i].s n).1 P[i] wb (P.set i {P[i]with s:=(ub P[i].s n).2}) dH D):=by
 have hp:=h.kE i hi;refine(Hz hp.st n hn).mono ?_;rintro e w1 ⟨rfl,hb1,st1⟩;have rL:bG P[i].p.own w w1:=hb1;refine⟨rfl,rL.size,λk hk hn=>rL.block k hk hn,?_⟩;intro wd hd;have sG:bG P[i].p.own w wd:=rL.trans (bG.aW hd);have std:=st1.below hd;refine(FY (hp.Ah sG) hp.st.rising hp.st.ku.1 n).mono ?_;rintro e w2 ⟨rfl,hb2,r2⟩;exact⟨rfl,_,h.both hi (λk hk=>jf hk) sG std.tagged (hp.made.rem n) hb2 r2,h.IL hi (λk hk=>jf hk) sG hb2⟩
def aaL(tg:Nat->Nat)(w:World)(wb:Nat)(P:List PD)(d:PD)(i:Nat)(dH:List Nat)(D:List Dg)(e:Ending)(w1:World):Prop:=
 ∃dv,e=.returned dv/\wb<w1.heap.size/\w1.heap[d.pb]?=w.heap[d.pb]?/\w1.ownsRow w.heap.size 61 3 dv (bz d.s).1.length (b_ (bz d.s).1)/\Calls prog 83 #[.pointer (some ⟨d.rb,0,none⟩)] w1 λe w2=>∃bv xU,e=.returned bv/\pI xU w2 wb (P.set i {d with s:=(bz d.s).2,Lb:=d.s.L}) dH D/\Fz tg w xU w2/\
  cW (λk=>xU k=5+P.length) w2 61 3 dv (bz d.s).1.length (b_ (bz d.s).1)/\cW (λk=>xU k=5+i) w2 61 3 bv (bz d.s).1.length (b_ (bz d.s).1)
theorem IM(h:pI tg w wb P dH D)(hi:i<P.length):
  Calls prog 21 #[.pointer (some ⟨P[i].p.sb,0,none⟩)] w (aaL tg w wb P P[i] i dH D):=by
 have hp:=h.kE i hi
 have hst:cx w {P[i].p with ex:=λk=>(tg k≠0/\¬P[i].p.own k)/\k<w.heap.size} P[i].s:=hp.st.more (λk=>(tg k≠0/\¬P[i].p.own k)/\k<w.heap.size) λk hk e=>Or.inr e.1
 refine(Ic hst (λk e=>e.2) (λk hk e=>e.1.2 hk) hp.made).mono ?_;rintro e w1 ⟨dv,rfl,hb1,st1,hd⟩;have rL:bG P[i].p.own w w1:=hb1;have hs1:=rL.size;have hpl:=af hp.blk
 have hpo:¬P[i].p.own P[i].pb:=λe=>by
  obtain⟨ip,hb,_⟩:=hp.st.blk;obtain⟨ov,ho,_⟩:=hp.st.mP;have jX:=hp.blk
  rcases e with e|e|e|e
  ·rw [e]at jX
   have hb':w.heap[P[i].p.sb]?=some (.cells #[.map (some P[i].p.mb),.map (some P[i].p.ob),.map (some P[i].p.cb),.pointer ip] 84 (0,0)):=hb;rw [hb']at jX
   injection jX with jX
   injection jX with _ e _
   exact absurd e (by decide)
  ·obtain⟨a,b,q⟩:=hp.st.g_.isMap;rw [e]at jX;exact absurd (jX.symm.trans q) (by simp)
  ·obtain⟨a,b,q⟩:=ho.isMap;rw [e]at jX;exact absurd (jX.symm.trans q) (by simp)
  ·obtain⟨a,b,q⟩:=hp.st.comp.isMap;rw [e]at jX;exact absurd (jX.symm.trans q) (by simp)
 refine⟨dv,rfl,by have:=h.lt;omega,rL.block _ hpl hpo,hd,?_⟩;refine(IG (hp.Ah rL) hp.st.rising hp.st.ku.1 hp.st.small hp.made).mono ?_;rintro e w2 ⟨bv,rfl,hb2,r2,hbv⟩
 obtain⟨xS,Qw⟩:∃xS:Nat->Nat,xS=λk=>if k<w.heap.size then tg k else if dv.ownBlock=some k then 5+P.length else 0:=⟨_,rfl⟩
 have oI:∀k,k<w.heap.size->xS k=tg k:=λk hk=>by rw [Qw];exact if_pos hk
 have AV:∀k,w.heap.size<=k->xS k=if dv.ownBlock=some k then 5+P.length else 0:=λk hk=>by rw [Qw];exact if_neg (by omega)
 have acL:cx w1 {P[i].p with ex:=λk=>xS k≠0/\¬P[i].p.own k} (bz P[i].s).2:=st1.more (λk=>xS k≠0/\¬P[i].p.own k) λk hk e=>Or.inr (by
  by_cases hlt:k<w.heap.size
  ·rw [oI k hlt]at e
   exact Or.inl ⟨e,hlt⟩
  ·rw [AV k (by omega)]at e
   refine Or.inr ?_
   by_cases q:dv.ownBlock=some k
   ·exact q
   ·rw [if_neg q]at e;exact absurd rfl e.1)
 refine⟨bv,_,rfl,h.both hi oI rL acL (hp.made.build hp.st.small) hb2 r2,h.IL hi oI rL hb2,⟨?_,λk e=> ?_⟩,⟨cI hbv (Nat.zero_le _),λk e=>vI (aQ hbv k e).1⟩⟩
 ·exact cI (aM hd λk e=>hb2.block k (aQ hd k e).2 λq=>by have:=(aQ hd k e).1;have:=q.2.2;omega) (Nat.zero_le _)
 show AU xS w1.heap.size (5+i) k=_;rw [jf (aQ hd k e).2,AV k (aQ hd k e).1,if_pos e]
theorem pI.aaM(h:pI tg w wb P dH D)(ht:∀k,k<w.heap.size->jv k=tg k):pI jv w wb P dH D:=by
 obtain⟨pv,hv,tv,av,a,b,c,d,e⟩:=h.mem
 have hk:∀(t:Nat) (k:Nat),tg k=t->k<w.heap.size->jv k=t/\w.heap[k]?=w.heap[k]?:=λt k q l=>⟨by rw [ht k l];exact q,rfl⟩
 exact⟨⟨pv,hv,tv,av,a,b.keep (hk 1),c.keep (hk 1),d.keep (hk 2),e.keep (hk 4)⟩,by rw [ht _ (af a)];exact h.MJ,λi hi=>(h.kE i hi).keep (X:=λ_=>False) (bG.refl _ _) (λk _ e=>e.elim) ht,λx hx=>(h.holds x hx).keep (hk 3)⟩
theorem jw.UE(h:jw tg t w d):¬d.p.own d.pb:=λe=>by
 obtain⟨ip,hb,_⟩:=h.st.blk;obtain⟨ov,ho,_⟩:=h.st.mP;have jX:=h.blk
 rcases e with e|e|e|e
 ·rw [e]at jX
  have hb':w.heap[d.p.sb]?=some (.cells #[.map (some d.p.mb),.map (some d.p.ob),.map (some d.p.cb),.pointer ip] 84 (0,0)):=hb;rw [hb']at jX
  injection jX with jX
  injection jX with _ e _
  exact absurd e (by decide)
 ·obtain⟨a,b,q⟩:=h.st.g_.isMap;rw [e]at jX;exact absurd (jX.symm.trans q) (by simp)
 ·obtain⟨a,b,q⟩:=ho.isMap;rw [e]at jX;exact absurd (jX.symm.trans q) (by simp)
 ·obtain⟨a,b,q⟩:=h.st.comp.isMap;rw [e]at jX;exact absurd (jX.symm.trans q) (by simp)
theorem jw.aaN(h:jw tg t w d):¬tE w d.pb:=by
 rintro⟨c,t',f,hc,ht⟩;rw [h.blk]at hc
 injection hc with hc
 injection hc with _ e _
 subst e;exact absurd ht (by decide)
theorem pI.last(h:pI tg w wb P dH D)(hi:i<P.length)(o:Option Addr)(n c:Nat):pI tg (w.setCell ⟨P[i].pb,2,none⟩ (.slice o n c)) wb (P.set i {P[i]with lv:=.slice o n c}) dH D:=by
 have hp:=h.kE i hi;have hpl:=af hp.blk
 have hX:∀k,k≠P[i].pb->(w.setCell ⟨P[i].pb,2,none⟩ (.slice o n c)).heap[k]?=w.heap[k]?:=λk hk=>Below.heap_setCell _ _ _ _ hk
 have hb:bG (λk=>k=P[i].pb) w (w.setCell ⟨P[i].pb,2,none⟩ (.slice o n c)):=bG.set (T:=λk=>k=P[i].pb) (b:=P[i].pb) (bG.refl _ _) (Or.inl rfl) _ _
 have lD:∀(t:Nat),t≠5+i->∀k,tg k=t->k<w.heap.size->tg k=t/\(w.setCell ⟨P[i].pb,2,none⟩ (.slice o n c)).heap[k]?=w.heap[k]?:=λt ht k a _=>⟨a,hX k λe=>ht (by rw [<-a,e];exact hp.Qu)⟩
 obtain⟨pv,hv,tv,av,a,b,c',d,e⟩:=h.mem;refine⟨⟨pv,hv,tv,av,(hX _ λe=>by have h1:=h.MJ;rw [e,hp.Qu]at h1;omega).trans a,?_,c'.keep (lD 1 (by omega)),d.keep (lD 2 (by omega)),e.keep (lD 4 (by omega))⟩,h.MJ,λj hj=> ?_,λx hx=>(h.holds x hx).keep (lD 3 (by omega))⟩
 ·have e1:(P.set i {P[i]with lv:=.slice o n c}).map (λd=>d.pb)=P.map λd=>d.pb:=by
   apply List.ext_getElem
   ·simp
   ·intro j h1 h2
    simp only [List.getElem_map,List.getElem_set]
    split
    ·next e=>subst e;rfl
    ·rfl
  rw [e1,List.length_set];exact b.keep (lD 1 (by omega))
 rw [List.length_set]at hj
 by_cases ej:i=j
 ·subst ej
  rw [List.getElem_set_self];refine⟨hp.Qu,ax hp.blk 2 _,⟨_,_,_,rfl⟩,?_,hp.own,hp.made,?_⟩
  ·exact hp.st.Bj (λk hk e=>e.2 hk) λk hk hn=>hX k λe=>hn ⟨by show tg k≠0;rw [e,hp.Qu];omega,by rw [e];exact hp.UE⟩
  ·exact hp.ref.typed.keep λk q _=>⟨q.1,hX k λe=>hp.aaN (e▸q.2)⟩
 rw [List.getElem_set_ne ej];exact(h.kE j hj).keep hb (λk _ e=>by have:=hp.Qu;rw [<-e]at this;omega) (λk _=>rfl)
end Go.Proofs.YtpmmjkiclngpmaaGreatDoor
