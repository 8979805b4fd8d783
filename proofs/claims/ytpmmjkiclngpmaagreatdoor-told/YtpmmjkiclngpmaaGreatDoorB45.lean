/- YtpmmjkiclngpmaaGreatDoorB45 -/
import Derived.Test.YtpmmjkiclngpmaaGreatDoorB42
import Derived.Test.YtpmmjkiclngpmaaGreatDoorB39
set_option maxRecDepth 100000
set_option linter.unusedSimpArgs false
set_option linter.unusedVariables false
set_option maxHeartbeats 12800000
namespace Go.Proofs.YtpmmjkiclngpmaaGreatDoor
open Tryz
open Go.RowKit Go.Maps
theorem Sv(w:World)(a b c:Value)(t:TypeId):∀j u,[a,b,c][j]?=some u->(w.alloc (.cells #[a,b,c] t)).cell? ((⟨w.heap.size,0,none⟩:Addr).add j)=some u:=eU w a b c t
theorem Ic{w:World}{p:SP}{s:qb}(h:cx w p s)(hex:∀k,p.ex k->k<w.heap.size)(gC:∀k,p.own k->¬p.ex k)(hM:E_ s):
  Calls prog 21 #[.pointer (some ⟨p.sb,0,none⟩)] w λe w'=>∃dv,e=.returned dv/\bG p.own w w'/\cx w' (p.with dv) (bz s).2/\w'.ownsRow w.heap.size 61 3 dv (bz s).1.length (b_ (bz s).1):=by
 have CQ:=h.ku;have hr:=h.rising;have HR:=aa hr;have HS:=aa h;have TI:=aa h.small;have HM:=aa hM;have Hf:=aa hex;have oZ:=aa gC;have Du:=aa (show ∀k,p.own k->k<w.heap.size from λk hk=>h.lt hk);have N5:=aa (Hp h);obtain⟨i0,hi,hz0,hz1,hz2⟩:=info_parts pA;clear h hex gC hM hr
 go_enter func21,ntmps21
 go_wp2_with fail
 refine N5.o.mono ?_;rintro e wa ⟨fb,tr,rfl,Z',hfi⟩;have HBa:=aa Z';have NZ:=aa hfi;have RU:=aa (Ln (some fb) wa);have Yi:=aa (EX fb wa hfi.map (by rw [List.length_map];omega));clear Z' hfi
 go_wp2_with fail
 refine RU.o.mono ?_;rintro e wb ⟨rfl,rfl⟩
 go_wp2_with fail
 refine Yi.o.mono ?_;rintro e wc ⟨nv,rfl,hnr,hbc⟩;have Sw:Below wa.heap.size wa wc:=((Below.refl _ _).alloc (Nat.le_refl _) _).trans hbc;have HBc:=aa (HBa.o.trans (Sw.mono HBa.o.size));have Bg:=aa (HS.o.below HBc.o);have HFc:=aa (NZ.o.below Sw);rw [List.length_map]at hnr;have HNr:=aa hnr;obtain⟨no,nc,hnv⟩:=ak hnr;subst hnv;obtain⟨c0,c1,c2,hl⟩:=Bg.o.field;have hac:=Sw.size;have hwa:=HBa.o.size;clear hbc Sw hnr;obtain⟨wd,hrun,hmd,htu⟩:=Bg.o.comp.clear Ej 0 (λ_=> .agg #[]);have hgd:=htu.grown;obtain⟨sG,fF⟩:=Bg.o.Uc (ns:= []) (by simp) hmd hgd;have pZ:=aa sG;have AO:=aa (HFc.o.V' Du.o sG)
 have D5:=aa (show OU wd p s (.slice none 0 0) 0 wd from⟨bG.refl _ _,by
  have:iH s 0={s with comp:= []}:=by simp [iH,cS,en]
  rw [this]
  exact fF.more (λk=>p.ex k\/(Value.slice none 0 0).ownBlock=some k) λk _ e=>e.elim Or.inr (λe=>by simp [Value.ownBlock]at e),World.ownsRow_nil _ _ _ _⟩)
 have XO:=sG.size;have MB:=aa (bE HNr.o λk e l=>sG.block k l (λho=>by have:=(aG HNr.o k e).1;have:=Du.o k ho;omega));have HLd:=aa (show ∀k,p.own k->k<wd.heap.size from λk hk=>by have:=Du.o k hk;omega);clear hmd hgd sG fF htu;go_wp2
 go_loopg [5,21] s.L.length (λgk s5 i wr=>∃j:Nat,gk+j=s.L.length/\i=.int .i64 j/\Hy (OU wd p s s5 j wr))
 case atStart=>exact⟨0,by omega,rfl,D5.o⟩
 obtain⟨j,hj,rfl,eM⟩:=hrel;obtain⟨so,sc,pM⟩:=ak eM.o.Da;subst pM;have K7:=eM.o.but.size
 by_cases hlt:j<s.L.length
 ·have eu:(j:Int)<(s.L.length:Int):=by omega
  obtain⟨nb,cap,aU,Wj,adz,wG,vJ,_⟩:=cN MB.o (by omega);simp only [Value.slice.injEq,true_and]at Wj;obtain⟨rfl,rfl⟩:=Wj;have Wl:=af wG
  have abL:¬p.own nb:=λho=>by have:=Du.o nb ho;omega
  have q0:=(World.cell?_of_block (a:=⟨nb,j,none⟩) (eM.o.but.block nb Wl abL)).trans ((dt MB.o j (by omega)).trans (EY s.L j hlt))
  have abK:nb<wr.heap.size:=by omega
  have hjc:j<nc:=by omega
  have qG:=List.getElem_mem hlt;have HMe:=aa (Lu s j hlt);have lO:=aa (show dW w.heap.size wr fb (iH s j).L tr from(AO.o.V' Du.o eM.o.but).congr (nZ _ _ _) (λn=>congrFun (nk s j).1 n) (λn=>congrFun (nk s j).2 n));have HCu:=aa (AJ eM.o.st lO.o s.L[j] HMe.o (λo ho=>(HM.o _ qG o ho).og.ok));rw [(nk s j).1]at HCu;clear wG
  go_wp2_with fail
  refine HCu.o.mono ?_;rintro e w2 ⟨rfl,hb2⟩;have cU:=aa (eM.o.below hb2);have oK:=aa (lO.o.below hb2);have Sa:=hb2.size;clear hb2
  rcases Ie:curr (aP s.L) s.L[j]with _|_
  ·have oD:=aa (Ia HR.o j hlt Ie)
   have CY:=aa (AK cU.o.st oK.o (λk hk=>Du.o k hk) (λk hk=>hk.elim (λq=>by have:=Hf.o k q;have:=cU.o.but.size;omega) λhk=>(aG cU.o.Da k hk).2) (by
    show ∀x∈en (aP s.L) (s.L.take j),x∈aZ (cS (cn (aP s.L)) s.L j)
    rw [nZ];exact Lt j) s.L[j] HMe.o)
   rw [(nk s j).1,oD.o]at CY;have HDi:=aa (n_ (E:=aP s.L) j hlt);have HDm:=aa (show vd (aP s.L) s.L[j]=if(ez (aP s.L) s.L[j]).1.1=0 then none else some ⟨s.L[j].ag,(ez (aP s.L) s.L[j]).1.1,(ez (aP s.L) s.L[j]).1.2⟩ by unfold vd;rw [if_neg (by simp [Ie])]);generalize Ot:s.L[j]=m at*;generalize vW:ez (aP s.L) m=cm at*
   have N2:(cA (aP s.L) (s.L.take j)).length<=8:=by have:=nj (E:=aP s.L) (L:=s.L.take j);rw [List.length_take]at this;omega
   generalize hgd:cA (aP s.L) (s.L.take j)=dg at*;have HDg:=aa hgd;have HDb:=aa cU.o.Da;rw [hgd]at HDb;clear hgd
   go_wp2_with fail
   refine CY.o.mono ?_;rintro e w3 ⟨rfl,hb3,hs3⟩;have HD3:=aa (bE HDb.o λk e l=>hb3.block k l (λho=>by have:=(aG HDb.o k e).1;have:=HLd.o k ho;omega));have N3:=aa (show bG p.own wd w3 from cU.o.but.trans hb3);have nH:=aa hs3;have ad0:=N3.o.size;clear hb3 hs3
   by_cases XO:cm.1.1=0
   ·have iw:=aa (show OU wd p s (.slice so dg.length sc) (j+1) w3 from⟨N3.o,nH.o,by rw [HDi.o,HDm.o,if_pos XO];simpa using HD3.o⟩)
    have abM:(cm.1.1:Int)=0:=by omega
    go_wp2
    go_roundg (gk-1)
    case measure=>omega
    case rel=>exact⟨j+1,by omega,by first|rfl|go_num,iw.o⟩
   ·have abM:¬(cm.1.1:Int)=0:=by omega
    have b1:dg.length+1<=maxLen:=by unfold maxLen;omega
    have b2:(dg.length+1)*32<=140737488355328:=by omega
    go_wp2_with (at_builtin;refine bC _ rfl _ _ 46 rfl wd.heap.size 61 i0 (.agg #[.string ⟨#[]⟩,.int .i64 0,.int .i64 0]) 3 32 underlying46 hi hz0 hz1 hz2 rfl (by decide) (.slice so dg.length sc) dg.length (b_ dg) rfl (HD3.o.alloc _) ⟨w3.heap.size,0,none⟩ 1 1 [.string ⟨m.ag.toArray⟩,.int .i64 (cm.1.1:Int),.int .i64 (cm.1.2:Int)] rfl rfl (Sv w3 _ _ _ _) ?h1 (by omega) b1 b2 ?h2 ?_)
    case h1=>
     intro u hu;simp only [List.mem_cons,List.not_mem_nil,or_false]at hu
     rcases hu with rfl|rfl|rfl<;>rfl
    case h2=>simp;omega
    intro g' cap' w4 hown aB aJ
    have iw:=aa (show OU wd p s (.slice (some ⟨g',0,none⟩) (dg.length+1) cap') (j+1) w4 from
     OU.tell oZ.o HLd.o N3.o nH.o HD3.o (aA aB) (by
      rw [HDi.o,HDm.o,if_neg XO];show World.ownsRow _ _ _ _ _ (dg++ [_]).length (b_ (dg++ [_]))
      rw [List.length_append,qj];exact hown) (λk e=>by
      have e':g'=k:=by simpa [Value.ownBlock]using e
      subst e'
      rcases aJ with q|q
      ·exact Or.inl q
      ·exact Or.inr (by first|omega|(simp at q;omega))))
    clear hown aB aJ;go_wp2
    go_roundg (gk-1)
    case measure=>omega
    case rel=>exact⟨j+1,by omega,by first|rfl|go_num,iw.o⟩
  ·have oD:=aa (H' HR.o j hlt Ie)
   have HDi:=aa (show cA (aP s.L) (s.L.take (j+1))=cA (aP s.L) (s.L.take j) by rw [n_ j hlt];simp [vd,Ie]);have dy:=aa (show OU wd p s _ (j+1) w2 from⟨cU.o.but,by rw [oD.o];exact cU.o.st,by rw [HDi.o];exact cU.o.Da⟩);go_wp2
   go_roundg (gk-1)
   case measure=>omega
   case rel=>exact⟨j+1,by omega,by first|rfl|go_num,dy.o⟩
 have eu:¬(j:Int)<(s.L.length:Int):=by omega
 have jU:j=s.L.length:=by omega
 have HDn:=aa (show cA (aP s.L) (s.L.take j)=(bz s).1 by rw [jU,List.take_length];rfl);have cC:=aa (show iH s j=⟨(bz s).2.L,(bz s).2.comp,s.vX⟩ by rw [jU];simp [iH,cS,bz]);have OV:=eM.o.Da;rw [HDn.o]at OV;have hst:=eM.o.st;rw [cC.o]at hst;rw [HDn.o]at hst⊢;have OW:=aa OV;have oD:=aa hst;have gQ:=aa eM.o.but;obtain⟨ip0,aaa,abN⟩:=hst.blk;have hb0:wr.heap[p.sb]?=some (.cells #[.map (some p.mb),.map (some p.ob),.map (some p.cb),.pointer ip0] 84 (0,0)):=aaa;have ad1:=af hb0;have ad2:=aj hb0;have z3:=ae hb0 3;simp at z3
 have OX:(bz s).1.length<=8:=by show(cA _ _).length<=8;have:=nj (E:=aP s.L) (L:=s.L);omega
 have qE:=aa (show bG p.own wr (wr.setCell ⟨p.sb,3,none⟩ (.pointer none))/\cx (wr.setCell ⟨p.sb,3,none⟩ (.pointer none)) (p.with (.slice so (bz s).1.length sc)) ⟨(bz s).2.L,(bz s).2.comp,none⟩from hst.Z_ (ip:=none) (im:=none) rfl)
 have abO:=aa (show(wr.setCell ⟨p.sb,3,none⟩ (.pointer none)).ownsRow wa.heap.size 9 1 (.slice no s.L.length nc) s.L.length (jA (aZ s.L))from
  bE MB.o λk e l=>by
   have hk:=(aG MB.o k e).1
   have hno:¬p.own k:=λho=>by have:=Du.o k ho;omega
   exact(Below.heap_setCell _ _ _ _ (λe'=>hno (Or.inl e'))).trans (eM.o.but.block k l hno))
 have Wo:=aa (a8 OV (b:=p.sb) (λe=>by have:=(aG OV _ e).1;have:=HLd.o p.sb (Or.inl rfl);omega) 3 (.pointer none));have TS:=aa (show bG p.own w wr from((bG.aW HBc.o).trans pZ.o).trans eM.o.but)
 have hzz:(wr.setCell ⟨p.sb,3,none⟩ (.pointer none)).heap.size=wr.heap.size:=by simp [World.setCell]
 clear OV hst hb0 aaa abN
 by_cases hd:(bz s).1= []
 ·have Vv:(bz s).1.length=0:=by rw [hd];rfl
  have ad3:((bz s).1.length:Int)=0:=by omega
  have VN:=aa (show(bz s).2.vX=some (uY ((bz s).2.L.map fV)) by
   show(if cA (aP s.L) s.L= []then _ else _)=_
   rw [if_pos (show cA (aP s.L) s.L= []from hd)];rfl)
  have nQ:∀f∈((bz s).2.L.map fV).flatten,K6 f:=λf hf=>by
   obtain⟨l,hl,hf⟩:=List.mem_flatten.1 hf;obtain⟨m,hm,rfl⟩:=List.mem_map.1 hl;unfold fV at hf
   rcases ho:m.obj with _|o
   ·rw [ho]at hf;cases hf
   ·rw [ho]at hf
    exact((HM.o.build TI.o) m hm o ho).og.cf f hf
  have Uf:((bz s).2.L.map fV).flatten.length<=100000:=by
   have key:∀l:List Md,(∀m∈l,(fV m).length<=601)->(l.map fV).flatten.length<=601*l.length:=by
    intro l
    induction l with
    |nil=>intro _;simp
    |cons x r ih=>
     intro hx;have a:=ih (λm hm=>hx m (by simp [hm]));have b:=hx x (by simp);rw [List.map_cons,List.flatten_cons,List.length_append,List.length_cons];omega
   have h1:=key (bz s).2.L (λm hm=>by
    unfold fV
    rcases ho:m.obj with _|o
    ·simp
    ·exact((HM.o.build TI.o) m hm o ho).og.fl)
   have h2:(bz s).2.L.length=s.L.length:=by show(s.L.map _).length=_;rw [List.length_map]
   omega
  have wG:aZ (bz s).2.L=aZ s.L:=by
   have:=nZ (aP s.L) s.L s.L.length;unfold cS at this;rw [List.take_length,List.drop_length,List.append_nil]at this;exact this
  have hlb:(bz s).2.L.length=s.L.length:=by show(s.L.map _).length=_;rw [List.length_map]
  have Sp:=aa (show Calls prog 47 #[.pointer (some ⟨p.sb,0,none⟩),.slice no s.L.length nc] (wr.setCell ⟨p.sb,3,none⟩ (.pointer none)) _ from H4 (s:=⟨(bz s).2.L,(bz s).2.comp,none⟩) qE.o.2 (.slice no s.L.length nc) wa.heap.size (by show World.ownsRow _ _ _ _ _ (bz s).2.L.length (jA (aZ (bz s).2.L));rw [wG,hlb];exact abO.o) (λk hk=>by rw [hzz];exact hk.elim (λq=>by have:=Hf.o k q;have:=TS.o.size;omega) λhk=>(aG OW.o k hk).2) (Ib hd) Uf nQ);clear nQ Uf wG hlb;generalize hgn:(bz s).1.length=dn at*
  go_wp2_with fail
  refine Sp.o.mono ?_;rintro e w5 ⟨ib,fv,rfl,cZ,hib,Ug,aab⟩;have hIm:Ky (λk=>¬(p.with (.slice so dn sc)).o k) w5 (some ⟨ib,0,none⟩) (some (uY ((bz s).2.L.map fV))):=⟨ib,fv,rfl,hib,Ug,aab⟩;have Yq:=aa (show bG p.own w5 (w5.setCell ⟨p.sb,3,none⟩ (.pointer (some ⟨ib,0,none⟩)))/\cx (w5.setCell ⟨p.sb,3,none⟩ (.pointer (some ⟨ib,0,none⟩))) (p.with (.slice so dn sc)) ⟨(bz s).2.L,(bz s).2.comp,some (uY ((bz s).2.L.map fV))⟩from(qE.o.2.below cZ).Z_ hIm);obtain⟨ip5,aac,_⟩:=(qE.o.2.below cZ).blk;have Sx:w5.heap[p.sb]?=some (.cells #[.map (some p.mb),.map (some p.ob),.map (some p.cb),.pointer ip5] 84 (0,0)):=aac;have y3:=ae Sx 3;have yl:=af Sx;have yf:=aj Sx;simp at y3;have abP:=aa (a8 (bE Wo.o λk _ l=>cZ.block k l) (b:=p.sb) (λe=>by have:=(aG Wo.o _ e).1;have:=HLd.o p.sb (Or.inl rfl);omega) 3 (.pointer (some ⟨ib,0,none⟩)));have gT:=aa ((TS.o.trans qE.o.1).trans (bG.aW cZ));clear cZ hib Ug aab hIm aac Sx;go_wp2;go_ret
  refine⟨_,rfl,gT.o.trans Yq.o.1,?_,by
   have h5:=cI (base':=w.heap.size) abP.o (by omega);rw [hgn,Vv];rw [Vv]at h5
   exact h5⟩
  have h2:=Yq.o.2
  have e2:(⟨(bz s).2.L,(bz s).2.comp,some (uY ((bz s).2.L.map fV))⟩:qb)=(bz s).2:=by rw [<-VN.o]
  rw [e2]at h2;rw [Vv]at h2;exact h2
 have Vv:¬((bz s).1.length:Int)=0:=λe=>hd (List.eq_nil_of_length_eq_zero (by omega))
 have VN:=aa (show(bz s).2.vX=none by
  show(if cA (aP s.L) s.L= []then _ else _)=_
  rw [if_neg (show ¬cA (aP s.L) s.L= []from hd)])
 go_wp2;go_ret;refine⟨_,rfl,TS.o.trans qE.o.1,?_,cI Wo.o (by omega)⟩;have h2:=qE.o.2
 have e2:(⟨(bz s).2.L,(bz s).2.comp,none⟩:qb)=(bz s).2:=by rw [<-VN.o]
 rw [e2]at h2;exact h2
end Go.Proofs.YtpmmjkiclngpmaaGreatDoor
namespace Go.Proofs.YtpmmjkiclngpmaaGreatDoor
open Tryz
open Go.RowKit
variable{s:qb}
theorem E_.set(h:E_ s)(n:Nm)(t:List UInt8):E_ (nP s n t).2:=by
 unfold nP
 split
 ·exact h
 split
 ·exact h
 intro m hm o ho
 rcases uM hm with⟨e1,e2,e3|⟨m0,e3,e4,e5⟩⟩|⟨e1,e2⟩
 ·rw [e3]at ho;cases ho
 ·rw [e1,<-e4];exact h m0 e3 o (by rw [<-e5];exact ho)
 exact h m e2 o ho
theorem E_.rem(h:E_ s)(n:Nm):E_ (ub s n).2:=by
 unfold ub
 split
 ·intro m hm o ho
  exact h m (uN hm).1 o ho
 exact h
theorem Wp:prog.underlying 61=some (.struct (prog.fieldsOf 61)):=by kernel_rfl
theorem Sy:prog.stoodInHeld 61=false:=by kernel_rfl
abbrev E'(d:Dg):Value:=.agg #[.string ⟨d.ag.toArray⟩,.int .i64 (d.aK:Int),.int .i64 (d.ai:Int)]
def tz(x y:Dg):Bool:=decide (x.ag=y.ag/\x.aK=y.aK/\x.ai=y.ai)
theorem ve(x y:Dg)(w:World):(Op.equalIn 10000 61 (E' x) (E' y)).run prog w=.ok (tz x y) w:=by
 rw [show(10000:Nat)=9999+1 from rfl,run_equalIn_agg w 9999 61 _ _ Wp Sy];simp only [Program.fieldsOf,underlying61];have u9:=underlying9;have a9:=isAgg9;have z9:=sizeOf9;have u3:=underlying3;have a3:=isAgg3;have z3:=sizeOf3;have u4:=underlying41;have a4:=isAgg41;have z4:=sizeOf41
 go_simp
 unfold tz
 by_cases h1:x.ag=y.ag<;>by_cases h2:x.aK=y.aK<;>by_cases h3:x.ai=y.ai<;>simp [h1,h2,h3]<;>omega
theorem vg(op:BinOp)(a b:Operand)(x y:Dg)(w:World):(eqGuard op 61 a b (E' x) (E' y)).run prog w=.ok () w:=run_eqGuard_agg w op 61 a b _ _ (by kernel_rfl)
end Go.Proofs.YtpmmjkiclngpmaaGreatDoor
