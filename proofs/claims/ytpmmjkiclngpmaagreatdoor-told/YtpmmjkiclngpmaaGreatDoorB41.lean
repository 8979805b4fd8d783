/- YtpmmjkiclngpmaaGreatDoorB41 -/
import Derived.Test.YtpmmjkiclngpmaaGreatDoorB40
import Derived.Test.YtpmmjkiclngpmaaGreatDoorB32
import Derived.Shelf.SlIter.Nil
import Derived.Shelf.SortM.Plain
import Derived.Shelf.SortM.SortNone
set_option maxRecDepth 100000
set_option linter.unusedSimpArgs false
set_option linter.unusedVariables false
set_option maxHeartbeats 12800000
namespace Go.Proofs.YtpmmjkiclngpmaaGreatDoor
open Tryz
open Go.RowKit Go.Maps
theorem ET(w:World):(Instr.makeMap 240 none).run prog w=.ok (.map (some w.heap.size)) (w.alloc (.map #[] 0)):=by
 simp [Instr.makeMap,go_sem]
theorem Lk(os:List (List CF))(j:Nat)(hj:j<os.length):(os.take (j+1)).flatten=(os.take j).flatten++os[j]:=by
 rw [List.take_succ_eq_append_getElem hj];simp only [List.flatten_append,List.flatten_cons,List.flatten_nil,List.append_nil]
theorem OK(os:List (List CF))(j:Nat)(hj:j<os.length):(os.take j).flatten.length+os[j].length<=os.flatten.length:=by
 have h:os.flatten=(os.take j).flatten++(os[j]++(os.drop (j+1)).flatten):=by
  conv=>lhs;rw [<-List.take_append_drop j os,List.drop_eq_getElem_cons hj]
  simp only [List.flatten_append,List.flatten_cons]
 rw [h,List.length_append,List.length_append];omega
theorem OL(w:World)(S:Nat->Prop)(ov:Value)(Gw:List Value)(os:List (List CF))(base:Nat)(ho:w.ownsRow base 151 1 ov os.length Gw)(hf:∀j (h:j<os.length) (h2:j<Gw.length),kt S w Gw[j] os[j])(hlen:os.flatten.length<=100000)(hos:os.length<=1000)(bp:∀f∈os.flatten,K6 f):
  Calls prog 79 #[ov] w λe w'=>∃ib fv,e=.returned (.pointer (some ⟨ib,0,none⟩))/\Below w.heap.size w w'/\w.heap.size<=ib/\w'.heap[ib]?=some (.cells #[fv] 95 (0,0))/\
   kt (λk=>(S k/\k<w.heap.size)\/(w.heap.size<=k/\k≠ib)) w' fv (uY os):=by
 have xD:Gw.length=os.length:=by have:=ho.1;simpa using this
 obtain⟨oo,oc,zz⟩:=ak ho;subst zz;have fO:=ET;have HO:=aa ho;have HF:=aa hf;have iD:=aa bp;obtain⟨i0,hi,hz0,hz1,hz2⟩:=info_parts B7
 have HL:=aa (show Gv w.heap.size w.heap.size (w.heap.size+1) S (.slice none 0 0) ((os.take 0).flatten) w ((w.alloc (.cells #[.slice none 0 0] 95)).alloc (.map #[] 0))from by
  have e1:(w.alloc (.cells #[.slice none 0 0] 95)).heap.size=w.heap.size+1:=by simp
  refine⟨((Below.refl _ _).alloc (Nat.le_refl _) _).alloc (by rw [e1];omega) _,⟨Nat.le_refl _,by omega⟩,aI (aF w _) _,⟨[],World.ownsRow_nil _ _ _ _,⟨rfl,λj hj=>absurd hj (by simp)⟩⟩,?_,by simp [Value.ownBlock]⟩;have:=oY.new (w.alloc (.cells #[.slice none 0 0] 95));rw [e1]at this
  exact this)
 clear ho hf bp
 go_enter func79,ntmps79
 go_wp2
 go_loopg [15] os.length (λgk i wr=>∃(j:Nat) (fv:Value),gk+j=os.length/\i=.int .i64 j/\Hy (Gv w.heap.size w.heap.size (w.heap.size+1) S fv ((os.take j).flatten) w wr))
 case atStart=>exact⟨0,.slice none 0 0,by omega,rfl,HL.o⟩
 obtain⟨j,fv,hj,rfl,D7⟩:=hrel;obtain⟨gk1,abF⟩:∃x,x=gk:=⟨gk,rfl⟩;subst abF;have K7:=D7.o.dB.size
 by_cases hlt:j<os.length
 ·obtain⟨ob,cap,aU,ZQ,adq,xM,hcc,_⟩:=cN HO.o (by omega)
  simp only [Value.slice.injEq,true_and]at ZQ;obtain⟨rfl,rfl⟩:=ZQ;have abG:=af xM;obtain⟨xs,Gt,v_⟩:=HF.o j hlt (by omega);obtain⟨fo,fc,se⟩:=ak Gt.1
  have q0:=(aC D7.o.dB abG j).trans (by
   have:=dt HO.o j (by omega)
   rw [this,List.getElem?_eq_getElem (by omega),se])
  have adr:ob<wr.heap.size:=by omega
  have VS:=aa Gt.1;rw [se]at VS;have M6:=aa v_;have ou:=aa (Lk os j hlt);have ads:=OK os j hlt;have HLX:=aa (D7.o.below (w':=wr.alloc (.cells #[.slice fo os[j].length fc] 151)) ((Below.refl _ _).alloc (Nat.le_refl _) _));have OM:=aa (show ∀f∈os[j],f∈os.flatten from λf hf=>List.mem_flatten.2 ⟨_,List.getElem_mem hlt,hf⟩);clear Gt v_ xM;generalize hgo:os[j]=fs at*;generalize hgd:(os.take j).flatten=dn at*
  have Zk:j<oc:=by omega
  go_wp2
  go_loopg [22] fs.length (λgq i wq=>∃(q:Nat) (ZR:Value),gq+q=fs.length/\i=.int .i64 q/\Hy (Gv w.heap.size w.heap.size (w.heap.size+1) S ZR (dn++fs.take q) w wq))
  case atStart=>exact⟨0,fv,by omega,rfl,by show Gv _ _ _ _ _ _ _ _;simpa using HLX.o⟩
  case round=>
   obtain⟨q,ZR,hq,rfl,ZS⟩:=hrel
   by_cases EU:q<fs.length
   ·obtain⟨fb,adt,adu,vL,_,ZT,adv,_⟩:=cN VS.o (by omega)
    simp only [Value.slice.injEq,true_and]at vL;obtain⟨rfl,rfl⟩:=vL;have abH:=af ZT;have dN:=ZS.o.dB;have adw:=dN.size
    have adx:fb<wr.heap.size:=by omega
    obtain⟨pv,kv,lv,uZ,hcell⟩:=M6.o.at q EU
    have hce:∀c,c<8->wr.cell? ⟨fb,q*8+c,none⟩=(eY fs[q] pv kv lv)[c]?:=λc hc=>(aC dN abH _).trans ((dt VS.o (q*8+c) (by omega)).trans (hcell c hc))
    obtain⟨po,pc,rfl⟩:=ak uZ.pr.1;obtain⟨ko,kc,rfl⟩:=ak uZ.co.1;obtain⟨zo,zc,rfl⟩:=ak uZ.ca.1;have t0:=hce 0 (by omega);have t1:=hce 1 (by omega);have t2:=hce 2 (by omega);have t3:=hce 3 (by omega);have t4:=hce 4 (by omega);have t5:=hce 5 (by omega);have t6:=hce 6 (by omega);have t7:=hce 7 (by omega);simp only [eY,Nat.add_zero,List.getElem?_cons_zero,List.getElem?_cons_succ]at t0 t1 t2 t3 t4 t5 t6 t7;have ZU:=iD.o fs[q] (OM.o _ (List.getElem_mem EU));have HTq:=aa (show fs.take (q+1)=fs.take q++ [fs[q]]from List.take_succ_eq_append_getElem EU)
    have hNl:(dn++fs.take q).length<=100000:=by rw [List.length_append,List.length_take];omega
    have abI:=aa (show dn++fs.take (q+1)=(dn++fs.take q)++ [fs[q]] by rw [HTq.o,List.append_assoc]);generalize dn++fs.take q=dq at*
    obtain⟨Ym,J0,We⟩:∃o c,ZR=.slice o dq.length c:=by obtain⟨ys,h1,_⟩:=ZS.o.row;exact ak h1
    subst We;have HRw:=aa (uZ.keep (S':=λk=>S k/\k<w.heap.size) (w':=w) λk h1 h2=>⟨⟨h1,h2⟩,rfl⟩);obtain⟨X,hX⟩:∃X,wr.alloc (.cells #[.string ⟨fs[q].mod.toArray⟩,.string ⟨fs[q].ag.toArray⟩,.bool fs[q].gW,.slice po fs[q].ay.length pc,.string ⟨fs[q].sig.toArray⟩,.int .i64 fs[q].aee,.slice ko fs[q].aK.length kc,.slice zo fs[q].bq.length zc] 92)=X:=⟨_,rfl⟩
    have qg:Below wr.heap.size wr X:=by rw [<-hX];exact(Below.refl _ _).alloc (Nat.le_refl _) _
    have Sq:=aa (ZS.o.below qg.drew)
    have hXs:X.heap.size=wr.heap.size+1:=by rw [<-hX];simp
    have ZV:X.heap[wr.heap.size]?=some (.cells #[.string ⟨fs[q].mod.toArray⟩,.string ⟨fs[q].ag.toArray⟩,.bool fs[q].gW,.slice po fs[q].ay.length pc,.string ⟨fs[q].sig.toArray⟩,.int .i64 fs[q].aee,.slice ko fs[q].aK.length kc,.slice zo fs[q].bq.length zc] 92 (0,0)):=by rw [<-hX];exact aF _ _
    obtain⟨W,hrun,hpl,hgW⟩:=Sq.o.H3.put (by unfold maxLen;omega) (x:=Li fs[q]) (by show fs[q].mod.length<=_;have:=ZU.own;unfold maxLen;omega) (by show fs[q].ag.length<=_;have:=ZU.own;unfold maxLen;omega) dq.length;have QL:=aa (Sq.o.note hgW hpl);have ady:=ZS.o.H3.lt;have QM:W.heap[wr.heap.size]?=_:=(hgW.block wr.heap.size (by show wr.heap.size<X.heap.size;omega) (λe=>by simp at e;omega)).trans ZV;have u0:=ae ZV 0;have u1:=ae ZV 1;have ul:=af ZV;have v0:=ae QM 0;have v1:=ae QM 1;have v2:=ae QM 2;have v3:=ae QM 3;have v4:=ae QM 4;have v5:=ae QM 5;have v6:=ae QM 6;have v7:=ae QM 7;have vl:=af QM;simp at u0 u1 v0 v1 v2 v3 v4 v5 v6 v7;have x0:=(ae Sq.o.blk 0);have xl:=af Sq.o.blk;have y0:=(ae QL.o.blk 0);have yl:=af QL.o.blk;have yf:=aj QL.o.blk;simp at x0 y0 xl;obtain⟨ys,Wf,Yn⟩:=QL.o.row;have HYs:=aa Wf;have HYf:=aa Yn;have HX:=aa hX;have HRW:=aa (HRw.o.keep (S':=λk=>S k/\k<w.heap.size) (w':=W) λk h1 h2=>⟨h1,QL.o.dB.block k h1.2⟩);have nK:=QL.o.low;have hbW:=QL.o.dB.size
    have b1:dq.length+1<=maxLen:=by unfold maxLen;omega
    have b2:(dq.length+1)*136<=140737488355328:=by omega
    have ZW:=hrun;simp only [Li]at hrun;clear hX ZV QM qg Wf Yn hpl hgW hce hcell uZ ZT dN ZW;generalize fs[q]=f at*
    go_wp2_with fail
    rw [HX.o]
    go_wp2_with fail
    go_region
    all_goals
     (try go_wp2_with fail)
     go_region_law (refine cv rfl (.tmp 38) (.tmp 40) 93 rfl w.heap.size 92 i0 (.agg #[.string ⟨#[]⟩,.string ⟨#[]⟩,.bool false,.slice none 0 0,.string ⟨#[]⟩,.int .i64 0,.slice none 0 0,.slice none 0 0]) 8 136 underlying93 hi hz0 hz1 hz2 rfl (by decide) (.slice Ym dq.length J0) dq.length ys ?_ ?_ ⟨W.heap.size,0,none⟩ 1 1 (eY f (.slice po f.ay.length pc) (.slice ko f.aK.length kc) (.slice zo f.bq.length zc)) ?_ rfl ?_ ?_ b1 b2 ?_ ?_;(simp [Act.eval,Act.put]);(exact World.ownsRow.drew (World.ownsRow.alloc HYs.o _));(simp [Act.eval,Act.put]);(exact(zv W _ _ _ _ _ _ _ _ _));(exact TY _ _ _ _ _ _ _ _ rfl rfl rfl rfl rfl rfl rfl rfl);(simp;omega);intro v' w4 hown aB aJ;obtain⟨vo,vc,rfl⟩:=ak hown;have HG:=aa (aA (dS aB));have ot:=aa hown;have Bh:=aa aJ;have fO:=(HG.o.block w.heap.size yl (λe=>QL.o.n1 e.symm)).trans QL.o.blk;have k9:=ae fO 0;have kf:=aj fO;have kl:=af fO;simp at k9;clear hown aB aJ fO)
     all_goals
      (try go_wp2_with fail)
      have xJ:=aa (QL.o.put HG.o HRW.o HYs.o HYf.o ot.o (λk e=>(Bh.o k e).imp id (λh=>by simp at h;omega)));go_wp2
      go_roundg (gk-1)
      case measure=>omega
      case rel=>exact⟨q+1,_,by omega,by first|rfl|go_num,by show Gv _ _ _ _ _ _ _ _;rw [abI.o];exact xJ.o⟩
   ·have Wh:q=fs.length:=by omega
    have QC:¬(q:Int)<(fs.length:Int):=by omega
    have XT:=aa (show Gv w.heap.size w.heap.size (w.heap.size+1) S ZR (os.take (j+1)).flatten w _ by have:=ZS.o;rw [Wh,List.take_length]at this;rw [ou.o];exact this);go_wp2
    go_roundg (gk1-1)
    case measure=>omega
    case rel=>exact⟨j+1,ZR,by omega,by first|rfl|go_num,XT.o⟩
 have jU:j=os.length:=by omega
 have eu:¬(j:Int)<(os.length:Int):=by omega
 have hZ:=aa (show Ue w.heap.size w.heap.size (w.heap.size+1) S fv (cS (yO (BF os.flatten)) os.flatten 0) (BF os.flatten) w _ by
  have:=D7.o;rw [jU,List.take_length]at this;have h2:=this.bou
  have e:cS (yO (BF os.flatten)) os.flatten 0=os.flatten:=by simp [cS]
  rw [e]
  exact h2)
 generalize hgA:os.flatten=al at*
 obtain⟨Ym,J0,We⟩:∃o c,fv=.slice o al.length c:=by obtain⟨ys,h1,_⟩:=hZ.o.row;rw [fU]at h1;exact ak h1
 subst We;have x0:=ae hZ.o.blk 0;have xl:=af hZ.o.blk;simp at x0;go_wp2
 go_loopg [51] al.length (λgq i wq=>∃q:Nat,gq+q=al.length/\i=.int .i64 q/\Hy (Ue w.heap.size w.heap.size (w.heap.size+1) S (.slice Ym al.length J0) (cS (yO (BF al)) al q) (BF al) w wq))
 case atStart=>exact⟨0,by omega,rfl,hZ.o⟩
 obtain⟨q,hq,rfl,Yo⟩:=hrel;have y0:=ae Yo.o.blk 0;have yl:=af Yo.o.blk;simp at y0
 by_cases EU:q<al.length
 ·obtain⟨ys,Wf,Yn⟩:=Yo.o.row
  have Ll:q<(cS (yO (BF al)) al q).length:=by rw [fU];exact EU
  obtain⟨g,cap,aU,vL,hg0,hgb,vW,Ot,hgs,Sr⟩:=cN Wf (by omega);rw [fU]at vL;simp only [Value.slice.injEq,true_and]at vL;obtain⟨rfl,rfl⟩:=vL;obtain⟨pv,kv,lv,uZ,hcell⟩:=Yn.at q Ll;have Wi:=Wf;rw [fU]at Wi
  have hce:∀c,c<8->aU[q*8+c]?=(eY (cS (yO (BF al)) al q)[q] pv kv lv)[c]?:=λc hc=>by
   rw [<-hcell c hc,<-dt Wi (q*8+c) (by omega),ae hgb]
  obtain⟨np,hpl⟩:=Yo.o.H3;have hAt:=ng (yO (BF al)) al q EU;have ZX:=iD.o _ (List.getElem_mem EU)
  have GJ:=aa (ND wr g (q*8) aU 92 hgb (cS (yO (BF al)) al q)[q] pv kv lv (by rw [hce 6 (by omega)];rfl) (by rw [hce 7 (by omega)];rfl) uZ (λk hk e=>by
   rcases hk with h|h
   ·omega
   ·exact h.2.2.2 (by rw [e];rfl)) (w.heap.size+1) np (BF al) hpl (by rw [hAt];exact ZX))
  have oD:=aa (λ(w':World) (kv':Value) hb hb' gZ=>Yo.o.step (w':=w') (kv':=kv') q Ll hgb Wf Yn uZ hcell hb hb' gZ);have oZ:=aa (nh (yO (BF al)) al q EU);have ox:=aa hAt
  have hqc:q<J0:=by rw [fU]at vW;omega
  clear Wf Yn hgb Sr uZ hcell Wi hce hpl hAt ZX
  go_wp2_with fail
  refine GJ.o.mono ?_;rintro e w3 ⟨rfl,kv',hb3,EV,hrow3⟩;have nH:=aa (oD.o w3 kv' hb3 EV hrow3);clear hb3 EV hrow3;go_wp2
  go_roundg (gk-1)
  case measure=>omega
  case rel=>exact⟨q+1,by omega,by first|rfl|go_num,by show Ue _ _ _ _ _ _ _ _ _;have:=nH.o;rw [ox.o]at this;rw [oZ.o];exact this⟩
 have Wh:q=al.length:=by omega
 have QC:¬(q:Int)<(al.length:Int):=by omega
 have Lm:=aa (show Ue w.heap.size w.heap.size (w.heap.size+1) S (.slice Ym al.length J0) (uY os) (BF al) w _ by
  have:=Yo.o;rw [Wh]at this;unfold uY;rw [hgA];unfold cS at this;rw [List.take_length,List.drop_length,List.append_nil]at this
  exact this)
 go_wp2;go_ret;obtain⟨ys,h1,h2⟩:=Lm.o.row;refine⟨w.heap.size,rfl,Lm.o.dB,Nat.le_refl _,.slice Ym al.length J0,Lm.o.blk,ys,p_.of h1 (λk e=>Or.inr ⟨(aG h1 k e).1,λe'=>Lm.o.n1 (by rw [<-e'];exact e)⟩),h2.keep λk hk _=>⟨?_,rfl⟩⟩
 rcases hk with hk|hk
 ·exact Or.inl hk
 exact Or.inr ⟨hk.1,hk.2.1⟩
end Go.Proofs.YtpmmjkiclngpmaaGreatDoor
namespace Go.Proofs
open Go.Shelf
def Tryz.keys44_ren:Go.Shelf.Ren:=⟨λ|7=>44|10=>73|n=>n,λ|23=>99|26=>9|3=>107|28=>103|0=>0|27=>102|33=>114|4=>4|n=>n,λ|n=>n⟩
theorem Tryz.keys44:Go.Proofs.SlLaysZ.n7 prog Tryz.keys44_ren:={
 mixed:=by kernel_rfl
 f7:=⟨Tryz.f44.name,by decide,func44.trans (congrArg some (by kernel_rfl))⟩
 f10:=⟨Tryz.f73.name,by decide,func73.trans (congrArg some (by kernel_rfl))⟩
 t0:=underlying0
 a0:=isAgg0
 z0:=sizeOf0
 v0:=zeroValue0
 t4:=underlying4
 a4:=isAgg4
 z4:=sizeOf4
 v4:=zeroValue4
 t23:=underlying99
 a23:=isAgg99
 z23:=sizeOf99
 v23:=zeroValue99
 t26:=underlying9
 a26:=isAgg9
 z26:=sizeOf9
 v26:=zeroValue9
 t27:=underlying102
 a27:=isAgg102
 z27:=sizeOf102
 v27:=zeroValue102
 t28:=underlying103
 a28:=isAgg103
 z28:=sizeOf103
 v28:=zeroValue103
 t33:=underlying114
 a33:=isAgg114
 z33:=sizeOf114
 v33:=zeroValue114}
def Tryz.sorted43_ren:Go.Shelf.Ren:=⟨λ|6=>43|8=>71|9=>72|11=>107|13=>109|12=>108|23=>170|24=>171|14=>161|15=>162|16=>163|17=>164|18=>165|19=>166|20=>167|21=>168|22=>169|25=>209|26=>210|27=>211|28=>212|29=>213|30=>182|31=>253|n=>n,λ|26=>9|28=>103|24=>58|0=>0|3=>3|37=>208|48=>292|50=>294|4=>4|40=>284|39=>283|45=>289|5=>5|9=>9|51=>344|55=>348|57=>372|58=>330|33=>114|n=>n,λ|n=>n⟩
theorem Tryz.sorted43:Go.Proofs.SlLaysZ.n6 prog Tryz.sorted43_ren:={
 mixed:=by kernel_rfl
 f6:=⟨Tryz.f43.name,by decide,func43.trans (congrArg some (by kernel_rfl))⟩
 f8:=⟨Tryz.f71.name,by decide,func71.trans (congrArg some (by kernel_rfl))⟩
 f11:=⟨Tryz.f107.name,by decide,func107.trans (congrArg some (by kernel_rfl))⟩
 t0:=underlying0
 a0:=isAgg0
 z0:=sizeOf0
 v0:=zeroValue0
 t24:=underlying58
 a24:=isAgg58
 z24:=sizeOf58
 v24:=zeroValue58
 t26:=underlying9
 a26:=isAgg9
 z26:=sizeOf9
 v26:=zeroValue9
 t28:=underlying103
 a28:=isAgg103
 z28:=sizeOf103
 v28:=zeroValue103
 i26:=by kernel_rfl}
def Tryz.sort72_ren:Go.Shelf.Ren:=⟨λ|6=>72|8=>109|9=>108|19=>170|20=>171|21=>161|22=>162|23=>163|24=>164|25=>165|26=>166|27=>167|28=>168|29=>169|36=>209|31=>210|32=>211|37=>212|38=>213|39=>182|41=>253|n=>n,λ|27=>58|29=>9|3=>3|32=>208|26=>58|0=>0|44=>292|46=>294|4=>4|36=>284|35=>283|41=>289|5=>5|9=>9|53=>344|57=>348|63=>372|64=>330|n=>n,λ|n=>n⟩
theorem Tryz.sort72:Go.Proofs.SlLaysM.n6 prog Tryz.sort72_ren:={
 mixed:=by kernel_rfl
 f6:=⟨Tryz.f72.name,by decide,func72.trans (congrArg some (by kernel_rfl))⟩
 f8:=func109.trans (congrArg some (by kernel_rfl))
 f9:=⟨Tryz.f108.name,by decide,func108.trans (congrArg some (by kernel_rfl))⟩
 f19:=func170.trans (congrArg some (by kernel_rfl))
 f20:=func171.trans (congrArg some (by kernel_rfl))
 f21:=⟨Tryz.f161.name,by decide,func161.trans (congrArg some (by kernel_rfl))⟩
 f22:=⟨Tryz.f162.name,by decide,func162.trans (congrArg some (by kernel_rfl))⟩
 f23:=⟨Tryz.f163.name,by decide,func163.trans (congrArg some (by kernel_rfl))⟩
 f24:=⟨Tryz.f164.name,by decide,func164.trans (congrArg some (by kernel_rfl))⟩
 f25:=⟨Tryz.f165.name,by decide,func165.trans (congrArg some (by kernel_rfl))⟩
 f26:=⟨Tryz.f166.name,by decide,func166.trans (congrArg some (by kernel_rfl))⟩
 f27:=⟨Tryz.f167.name,by decide,func167.trans (congrArg some (by kernel_rfl))⟩
 f28:=⟨Tryz.f168.name,by decide,func168.trans (congrArg some (by kernel_rfl))⟩
 f29:=⟨Tryz.f169.name,by decide,func169.trans (congrArg some (by kernel_rfl))⟩
 f31:=func210.trans (congrArg some (by kernel_rfl))
 f32:=func211.trans (congrArg some (by kernel_rfl))
 f36:=⟨Tryz.f209.name,by decide,func209.trans (congrArg some (by kernel_rfl))⟩
 f37:=⟨Tryz.f212.name,by decide,func212.trans (congrArg some (by kernel_rfl))⟩
 f38:=⟨Tryz.f213.name,by decide,func213.trans (congrArg some (by kernel_rfl))⟩
 f39:=⟨Tryz.f182.name,by decide,func182.trans (congrArg some (by kernel_rfl))⟩
 f41:=⟨Tryz.f253.name,by decide,func253.trans (congrArg some (by kernel_rfl))⟩
 t0:=underlying0
 a0:=isAgg0
 z0:=sizeOf0
 v0:=zeroValue0
 t3:=underlying3
 a3:=isAgg3
 z3:=sizeOf3
 v3:=zeroValue3
 t4:=underlying4
 a4:=isAgg4
 z4:=sizeOf4
 v4:=zeroValue4
 t5:=underlying5
 a5:=isAgg5
 z5:=sizeOf5
 v5:=zeroValue5
 t9:=underlying9
 a9:=isAgg9
 z9:=sizeOf9
 v9:=zeroValue9
 t26:=underlying58
 a26:=isAgg58
 z26:=sizeOf58
 v26:=zeroValue58
 t27:=underlying58
 a27:=isAgg58
 z27:=sizeOf58
 v27:=zeroValue58
 t29:=underlying9
 a29:=isAgg9
 z29:=sizeOf9
 v29:=zeroValue9
 t32:=underlying208
 a32:=isAgg208
 z32:=sizeOf208
 v32:=zeroValue208
 t35:=underlying283
 a35:=isAgg283
 z35:=sizeOf283
 v35:=zeroValue283
 t36:=underlying284
 a36:=isAgg284
 z36:=sizeOf284
 v36:=zeroValue284
 t41:=underlying289
 a41:=isAgg289
 z41:=sizeOf289
 v41:=zeroValue289
 t44:=underlying292
 a44:=isAgg292
 z44:=sizeOf292
 v44:=zeroValue292
 t46:=underlying294
 a46:=isAgg294
 z46:=sizeOf294
 v46:=zeroValue294
 t53:=underlying344
 a53:=isAgg344
 z53:=sizeOf344
 v53:=zeroValue344
 t57:=underlying348
 a57:=isAgg348
 z57:=sizeOf348
 v57:=zeroValue348
 t63:=underlying372
 a63:=isAgg372
 z63:=sizeOf372
 v63:=zeroValue372
 t64:=underlying330
 a64:=isAgg330
 z64:=sizeOf330
 v64:=zeroValue330}
end Go.Proofs
namespace Go.Proofs.YtpmmjkiclngpmaaGreatDoor
open Tryz
open Go.RowKit Go.Maps Go.Sort Go.Shelf
variable{ns:List Nm}
theorem BG:∀{a b:Nm},bytesBefore a b=true->a<b
 | [],[],h=>by cases h
 | [],_::_,_=>List.nil_lt_cons _ _
 |_::_,[],h=>by cases h
 |a::r,b::s,h=>by
  unfold bytesBefore at h;simp only [Bool.or_eq_true,Bool.and_eq_true,decide_eq_true_eq,beq_iff_eq]at h;rw [List.cons_lt_cons_iff]
  rcases h with h|⟨rfl,h⟩
  ·exact Or.inl h
  ·exact Or.inr ⟨rfl,BG h⟩
theorem AM(ns:List Nm)(ov:Nm->Value):strKeys (gV ns ov)=ns:=by
 show(ns.map λn=>(Lit.string n,DataW.held (ov n))).map (λp=>strOf p.1)=ns;rw [List.map_map];exact List.map_id' ns
theorem EW{ss:List Nm}(hr:bY ns)(hp:ss.Perm ns):ss.mergeSort (λx y=>decide (x<=y))=ns:=by
 rw [mergeSort_of_perm hp];exact List.mergeSort_of_pairwise (hr.imp λ{a b} h=>by simpa using List.le_of_lt (BG h))
abbrev jA(l:List Nm):List Value:=l.map Go.Proofs.encStr
theorem OO(m:Nat):AnyZ.SortsIn prog Tryz.sorted43_ren Fence.wide m:=
  ⟨λblk off cap ss W hH aed hsz=>callsIn_wide.2 (AnyM.slices_Sort_string Tryz.sort72 blk off cap ss W hH aed hsz),
   λp cap W=>callsIn_wide.2 (AnyM.slices_Sort_string_none Tryz.sort72 p cap W)⟩
theorem Ln(mb:Option Nat)(W:World):Calls prog 44 #[.map mb] W λe w'=>e=.returned (.func (.func 73) #[] #[.pointer (some ⟨W.heap.size,0,none⟩)])/\w'=W.alloc (.cells #[.map mb] 99):=
 callsIn_wide.1 (AnyZ.keys_in Tryz.keys44 Fence.wide 5 trivial rfl mb W)
theorem EX{ov:Nm->Value}(b:Nat)(w:World)(hown:cV prog w 9 b ns ov)(hn:ns.length<=1000):
  Calls prog 43 #[.func (.func 73) #[] #[.pointer (some ⟨w.heap.size,0,none⟩)]] (w.alloc (.cells #[.map (some b)] 99)) λe w'=>∃v,e=.returned v/\
   w'.ownsRow w.heap.size 9 1 v ns.length (jA ns)/\Below w.heap.size (w.alloc (.cells #[.map (some b)] 99)) w':=by
 have hbl:=hown.lt;have hr:=hown.rising lL;have hsz:Maps.size (gV ns ov)=ns.length:=tN ns ov
 have hseq:SeqGives Fence.wide 2 prog 73 #[.pointer (some ⟨w.heap.size,0,none⟩)] encStr (λss=>ss.Perm (strKeys (gV ns ov))) (Maps.size (gV ns ov)) (w.alloc (.cells #[.map (some b)] 99)):=
  AnyZ.keys_gives (ρ:=Tryz.keys44_ren) {Tryz.keys44 with} Fence.wide _ trivial rfl (by omega) w.heap.size b ns.length (gV ns ov) _ (by simp) (by simp) (hown.below ((Below.refl _ _).alloc (Nat.le_refl _) _))
 have h:=AnyZ.sorted_in Tryz.sorted43 Fence.wide 5 trivial trivial trivial trivial rfl (by omega) (OO _) (enters_of func72 (by kernel_rfl) rfl) 73 #[.pointer (some ⟨w.heap.size,0,none⟩)] trivial (enters_of func73 (by kernel_rfl) rfl) _ _ (by rw [hsz];unfold maxLen;omega) (by rw [hsz];omega) _ hseq;refine(callsIn_wide.1 h).mono ?_;rintro e w' ⟨v,ss,rfl,hS,hrow,hnil,hb⟩;rw [AM]at hS;rw [EW hr hS,hS.length_eq]at hrow;exact⟨v,rfl,cI hrow (by simp),hb.mono (by simp)⟩
end Go.Proofs.YtpmmjkiclngpmaaGreatDoor
namespace Go.Proofs.YtpmmjkiclngpmaaGreatDoor
open Tryz
open Go.RowKit Go.Maps
variable{fs:List CF}{v:Value}{w:World}{S:Nat->Prop}
def fV(m:Md):List CF:=(m.obj.map λo=>o.aR).getD []
theorem Lo:(prog.info? 151).map (λi=>(i.zero,i.size,i.bytes))=some (some (.agg #[.slice none 0 0]),1,24):=by kernel_rfl
theorem kt.mono{S':Nat->Prop}(h:kt S w v fs)(hk:∀k,S k->k<w.heap.size->S' k):kt S' w v fs:=h.keep λk h1 h2=>⟨hk k h1 h2,rfl⟩
theorem kt.slice(h:kt S w v fs):∃o c,v=.slice o fs.length c:=by obtain⟨xs,a,_⟩:=h;exact ak a.1
theorem EY(L:List Md)(j:Nat)(hj:j<L.length):(jA (aZ L))[j]?=some (.string ⟨(L[j].ag).toArray⟩):=by
 simp [jA,aZ,hj,Go.Proofs.encStr]
structure Obs (lo:Nat) (S:Nat->Prop) (sv:Value) (l:List Md) (w0 w:World):Prop where
 dB:Below lo w0 w
 row:∃Gw,w.ownsRow lo 151 1 sv l.length Gw/\∀i (h:i<l.length) (h2:i<Gw.length),kt S w Gw[i] (fV l[i])
theorem H4{p:SP}{s:qb}(h:cx w p s)(v:Value)(base:Nat)(hn:w.ownsRow base 9 1 v s.L.length (jA (aZ s.L)))(hex:∀k,p.ex k->k<w.heap.size)(xM:∀m∈s.L,m.obj.isSome=true)(hlen:(s.L.map fV).flatten.length<=100000)(bp:∀f∈(s.L.map fV).flatten,K6 f):
  Calls prog 47 #[.pointer (some ⟨p.sb,0,none⟩),v] w λe w'=>∃ib fv,e=.returned (.pointer (some ⟨ib,0,none⟩))/\Below w.heap.size w w'/\¬p.o ib/\w'.heap[ib]?=some (.cells #[fv] 95 (0,0))/\
   kt (λk=>¬p.o k) w' fv (uY (s.L.map fV)):=by
 obtain⟨c0,c1,_,hl⟩:=h.field;obtain⟨vo,vc,hv⟩:=ak hn;subst hv;have CQ:=h.ku.1;have HS:=aa h;have HN:=aa hn;have ZE:=aa xM;have Du:=aa (show ∀k,p.o k->k<w.heap.size from λk hk=>hk.elim h.lt (hex k));have ze:=aa hlen;have iD:=aa bp;obtain⟨i0,hi,hz0,hz1,hz2⟩:=info_parts Lo;have TH:=R_;obtain⟨ov,zz,ZY⟩:=h.mP;have Yh:=aa zz;have abJ:=aa ZY;have HO:=aa (show Obs w.heap.size (λk=>¬p.o k/\k<w.heap.size) (.slice none 0 0) (s.L.take 0) w w from⟨Below.refl _ _,[],World.ownsRow_nil _ _ _ _,λi hi=>absurd hi (by simp)⟩);clear h hn xM hex hlen bp zz ZY
 go_enter func47,ntmps47
 go_wp2
 go_loopg [5,10] s.L.length (λgk s5 i wr=>∃j:Nat,gk+j=s.L.length/\i=.int .i64 j/\Hy (Obs w.heap.size (λk=>¬p.o k/\k<w.heap.size) s5 (s.L.take j) w wr))
 case atStart=>exact⟨0,by omega,rfl,HO.o⟩
 obtain⟨j,hj,rfl,HOr⟩:=hrel;obtain⟨Gw,hrow,hfn⟩:=HOr.o.row;have K7:=HOr.o.dB.size
 by_cases hlt:j<s.L.length
 ·have eu:(j:Int)<(s.L.length:Int):=by omega
  have ye:(s.L.take j).length=j:=by rw [List.length_take];omega
  have ou:=aa (show s.L.take (j+1)=s.L.take j++ [s.L[j]]from List.take_succ_eq_append_getElem hlt);rw [ye]at hrow;obtain⟨so,sc,pM⟩:=ak hrow;subst pM;obtain⟨nb,cap,aU,Wj,_,wG,vJ,_⟩:=cN HN.o (by omega);simp only [Value.slice.injEq,true_and]at Wj;obtain⟨rfl,rfl⟩:=Wj;have Wl:=af wG;have q0:=(aC HOr.o.dB Wl j).trans ((dt HN.o j (by omega)).trans (EY s.L j hlt))
  have abK:nb<wr.heap.size:=by omega
  have hm:=List.getElem_mem hlt;have HSr:=aa (HS.o.below HOr.o.dB);obtain⟨d0,d1,_,dl⟩:=HSr.o.field;have hsome:=ZE.o _ hm;obtain⟨o,EP⟩:=Option.isSome_iff_exists.1 hsome;obtain⟨fv,uv,hval,hfr,wH⟩:=abJ.o _ hm o EP;have hsm:=HSr.o.small _ hm
  have gO:s.L[j].ag.length<=maxLen:=by unfold maxLen;omega
  have hlk:=(Yh.o.below HOr.o.dB).ar lL uO (zeroValue154 wr) (nV gO);rw [if_pos ((j5 HSr.o.rising hm).2 hsome),hval]at hlk;obtain⟨fo,fc,rfl⟩:=hfr.slice;obtain⟨uo,uc,rfl⟩:=ak wH.1
  have vL:fV s.L[j]=o.aR:=by unfold fV;rw [EP];rfl
  have lO:=aa (show kt (λk=>¬p.o k/\k<w.heap.size) wr (.slice fo o.aR.length fc) (fV s.L[j]) by rw [vL];exact hfr.keep λk h1 h2=>⟨⟨h1,h2⟩,HOr.o.dB.block k h2⟩);have qi:=aa hfn;have xQ:=aa hrow
  have xD:Gw.length=j:=by have:=hrow.1;simpa using this
  have km:=aa xD
  have hjc:j<vc:=by omega
  have b1:j+1<=maxLen:=by unfold maxLen;omega
  have b2:(j+1)*24<=140737488355328:=by omega
  clear hrow hfn wG hsome EP hval hfr wH xD;generalize Ot:s.L[j]=m at*
  go_wp2_with (at_builtin;refine bC _ rfl _ _ 163 rfl w.heap.size 151 i0 (.agg #[.slice none 0 0]) 1 24 underlying163 hi hz0 hz1 hz2 rfl (by decide) (.slice so j sc) j Gw rfl (xQ.o.alloc _) ⟨wr.heap.size,0,none⟩ 1 1 [.slice fo o.aR.length fc] rfl rfl (λj u hj=>zu wr _ _ j u hj) (by intro u hu;simp at hu;subst hu;rfl) (by omega) b1 b2 (by simp;omega) ?_)
  intro g' cap' w3 hown aB aJ;have ue:=aA aB
  have oJ:=aa (show Obs w.heap.size (λk=>¬p.o k/\k<w.heap.size) (.slice (some ⟨g',0,none⟩) (j+1) cap') (s.L.take (j+1)) w w3 from by
   have pY:∀k,k<w.heap.size->(Value.slice so j sc).ownBlock≠some k:=λk hk e=>by have:=(aG xQ.o k e).1;omega
   refine⟨HOr.o.dB.trans ⟨ue.os,ue.tape,ue.output,ue.size,λk hk=>ue.block k (by omega) (λe=>pY k hk e.symm)⟩,Gw++ [.slice fo o.aR.length fc],?_,?_⟩
   ·rw [ou.o,List.length_append,ye];exact hown
   ·intro i h1 h2
    have fG:∀k,(¬p.o k/\k<w.heap.size)->k<wr.heap.size->(¬p.o k/\k<w.heap.size)/\w3.heap[k]?=wr.heap[k]?:=λk q1 q2=>⟨q1,ue.block k q2 (λe=>pY k q1.2 e.symm)⟩
    rcases Nat.lt_or_ge i j with I'|I'
    ·have e1:(Gw++ [.slice fo o.aR.length fc])[i]=Gw[i]'(by have:=km.o;omega):=List.getElem_append_left (by have:=km.o;omega)
     have e2:(s.L.take (j+1))[i]=(s.L.take j)[i]'(by rw [ye];exact I'):=by simp
     rw [e1,e2];exact(qi.o i (by rw [ye];exact I') (by have:=km.o;omega)).keep fG
    ·have hi:i=j:=by rw [List.length_take]at h1;omega
     subst hi;have xD:=km.o
     have e1:(Gw++ [.slice fo o.aR.length fc])[i]=.slice fo o.aR.length fc:=by
      rw [List.getElem_append_right (by omega)];simp [xD]
     have e2:(s.L.take (i+1))[i]=m:=by rw [List.getElem_take];exact Ot
     rw [e1,e2]
     exact lO.o.keep fG)
  clear hown aB ue aJ;go_wp2
  go_roundg (gk-1)
  case measure=>omega
  case rel=>exact⟨j+1,by omega,by first|rfl|go_num,oJ.o⟩
 have jU:j=s.L.length:=by omega
 have eu:¬(j:Int)<(s.L.length:Int):=by omega
 have ye:(s.L.take j).length=(s.L.map fV).length:=by rw [List.length_take,List.length_map];omega
 rw [ye]at hrow;obtain⟨so,sc,pM⟩:=ak hrow;rw [List.length_map]at pM;subst pM
 have Ox:=aa (OL wr (λk=>¬p.o k/\k<w.heap.size) (.slice so s.L.length sc) Gw (s.L.map fV) w.heap.size hrow (λi h1 h2=>by
  have:=hfn i (by rw [ye];exact h1) h2
  have e:(s.L.take j)[i]'(by rw [ye];exact h1)=s.L[i]'(by rw [List.length_map]at h1;exact h1):=by simp
  rw [e]at this;rw [List.getElem_map]
  exact this) ze.o (by rw [List.length_map];omega) iD.o)
 have HB:=aa HOr.o.dB;clear hrow hfn
 go_wp2_with fail
 refine Ox.o.mono ?_;rintro e w3 ⟨ib,fv,rfl,hb3,hib,EV,ZZ⟩;have dy:=aa (HB.o.trans (hb3.mono K7));have qD:=aa EV;have B5:=aa ZZ;clear hb3 EV ZZ;go_wp2;go_ret;refine⟨ib,fv,rfl,dy.o,λho=> ?_,qD.o,B5.o.mono λk hk _ ho=> ?_⟩
 ·have:=Du.o _ ho;omega
 have tI:=Du.o _ ho
 rcases hk with hk|hk
 ·exact hk.1.1 ho
 omega
end Go.Proofs.YtpmmjkiclngpmaaGreatDoor
