/- YtpmmjkiclngpmaaGreatDoorB25 -/
import Derived.Test.YtpmmjkiclngpmaaGreatDoorB16
import Derived.Test.YtpmmjkiclngpmaaGreatDoorB24
set_option maxRecDepth 100000
set_option linter.unusedSimpArgs false
set_option linter.unusedVariables false
set_option maxHeartbeats 12800000
namespace Go.Proofs.YtpmmjkiclngpmaaGreatDoor
open Tryz
open Go.RowKit
variable{b:Nat}{w:World}
def enters:List sL->CS->CS
 | [],s=>s
 |x::r,s=>enters r (s.enter x.ag)
theorem E3(l:List sL)(x:sL)(s:CS):enters (l++ [x]) s=(enters l s).enter x.ag:=by
 induction l generalizing s with
 |nil=>rfl
 |cons y r ih=>exact ih _
theorem kI(l:List sL)(s:CS)(h:s.aee<=s.az.length):(enters l s).az.length=s.az.length+l.length/\(enters l s).aee<=s.az.length+l.length/\(enters l s).aK=s.aK/\(enters l s).bq=s.bq/\(enters l s).lk=s.lk:=by
 induction l generalizing s with
 |nil=>exact⟨rfl,by simpa [enters]using h,rfl,rfl,rfl⟩
 |cons x r ih=>
  have hs:(s.enter x.ag).az.length=s.az.length+1:=by simp [CS.enter]
  have:=ih (s.enter x.ag) (by rw [hs];simp only [CS.enter];omega);rw [hs]at this;obtain⟨a,b,c,d,d'⟩:=this;exact⟨by show(enters r _).az.length=_;rw [a];simp;omega,by show(enters r _).aee<=_;simp;omega,c,d,d'⟩
def Jk(vn ag:List UInt8)(gW:Bool)(pv:Value)(sig:List UInt8)(aee:Nat)(kv lv:Value):Value:=.agg #[.string ⟨vn.toArray⟩,.string ⟨ag.toArray⟩,.bool gW,pv,.string ⟨sig.toArray⟩,.int .i64 aee,kv,lv]
def kJ:Obj:=.cells #[.string ⟨#[]⟩,.string ⟨#[]⟩,.bool false,.slice none 0 0,.string ⟨#[]⟩,.int .i64 0,.slice none 0 0,.slice none 0 0] 92
def begun(l:List Us):CS:=⟨[],0,[],[],l⟩
def dx(fnd:wY)(m:Nat)(f:iL)(l:List Us):CS:=(gen fnd (m+1) f.br (enters f.ay (begun l))).emit 6 0
theorem wu{base:Nat}{e:TypeId}{size:Nat}{v:Value}{n:Nat}{xs:List Value}(h:w.ownsRow base e size v n xs)(hne:v.ownBlock≠some b)(u0 u1 u2 u3 u4 u5 u6 u7:Value):
  ((((((((w.setCell ⟨b,0,none⟩ u0).setCell ⟨b,1,none⟩ u1).setCell ⟨b,2,none⟩ u2).setCell ⟨b,3,none⟩ u3).setCell ⟨b,4,none⟩ u4).setCell ⟨b,5,none⟩ u5).setCell ⟨b,6,none⟩ u6).setCell ⟨b,7,none⟩ u7).ownsRow base e size v n xs:=
 a8 (a8 (a8 (a8 (a8 (a8 (a8 (a8 h hne _ _) hne _ _) hne _ _) hne _ _) hne _ _) hne _ _) hne _ _) hne _ _
theorem RO{lo:Nat}{V:VK}{lk:List Us}{uv:Value}(h:Vw lo V lk uv w)(hb:∀k,jG V uv k->k≠b)(u0 u1 u2 u3 u4 u5 u6 u7:Value):
  Vw lo V lk uv ((((((((w.setCell ⟨b,0,none⟩ u0).setCell ⟨b,1,none⟩ u1).setCell ⟨b,2,none⟩ u2).setCell ⟨b,3,none⟩ u3).setCell ⟨b,4,none⟩ u4).setCell ⟨b,5,none⟩ u5).setCell ⟨b,6,none⟩ u6).setCell ⟨b,7,none⟩ u7):=
 (((((((h.set hb _ _).set hb _ _).set hb _ _).set hb _ _).set hb _ _).set hb _ _).set hb _ _).set hb _ _
theorem Od{B:Cb}{a:World}(h:kU B a w)(hb:B.lo<=b)(ht:¬B.tb b)(u0 u1 u2 u3 u4 u5 u6 u7:Value):
  kU B a ((((((((w.setCell ⟨b,0,none⟩ u0).setCell ⟨b,1,none⟩ u1).setCell ⟨b,2,none⟩ u2).setCell ⟨b,3,none⟩ u3).setCell ⟨b,4,none⟩ u4).setCell ⟨b,5,none⟩ u5).setCell ⟨b,6,none⟩ u6).setCell ⟨b,7,none⟩ u7):=
 gU (gU (gU (gU (gU (gU (gU (gU h hb ht _ _) hb ht _ _) hb ht _ _) hb ht _ _) hb ht _ _) hb ht _ _) hb ht _ _) hb ht _ _
theorem sO(m:Nat)(S:Nat->Prop)(lo:Nat)(T:Nat->Prop)(hS:∀k,S k->k<lo)(w:World)(V:VK)(pk:List Us)(KH:Value)(Gr:Vw lo V pk KH w)(hT:∀k,T k->k<w.heap.size)(hTv:∀k,k=V.b\/KH.ownBlock=some k->¬T k)(hTi:∀k,V.iv.ownBlock=some k->T k)(g o:Nat)(f:iL)(hF:lx m S lo w g o f)(hg:g<lo)(fnd:wY)(known:List UInt8->Prop)(lJ:∀C tb w1,C.c0=.pointer (some ⟨V.b,0,none⟩)->C.V=V->Below lo w w1->Bf ⟨lo,tb⟩ w1 C fnd known)(sig:List UInt8)(xK:∀w',Below lo w w'->Calls prog 174 #[.pointer (some ⟨g,o,none⟩)] w' λe w''=>e=.returned (.string ⟨sig.toArray⟩)/\Below w'.heap.size w' w'')(kh:lV known (m+1) f.br)(hpl:f.ay.length+2*sz (m+1) f.br+2<=1000000)(hlk:pk.length+1000*sz (m+1) f.br<=8000000000):
    Calls prog 116 #[.pointer (some ⟨V.b,0,none⟩),.pointer (some ⟨g,o,none⟩)] w λe w'=>∃pv kv lv uv,e=.returned (Jk V.nm f.ag f.gW pv sig (dx fnd m f pk).aee kv lv)/\kU ⟨lo,T⟩ w w'/\Vw lo V (dx fnd m f pk).lk uv w'/\
      w'.ownsRow lo 132 1 pv f.ay.length (fT (f.ay.map λx=>x.eF))/\w'.ownsRow lo 196 2 kv (dx fnd m f pk).aK.length (cX (dx fnd m f pk).aK)/\w'.ownsRow lo 87 2 lv (dx fnd m f pk).bq.length (fR (dx fnd m f pk).bq)/\
      (∀k,pv.ownBlock=some k\/kv.ownBlock=some k\/lv.ownBlock=some k->¬T k/\¬jG V uv k)/\(∀k,k=V.b\/uv.ownBlock=some k->¬T k):=by
  obtain⟨pv,bv,b0,b1,b2,b3,b4,b5,b6,b7,b8,b9,⟨po,pc,By,Bl⟩,cO⟩:=hF;subst By;have Oe:=aa (show pV m S w g (o+5) f.br from⟨bv,b5,b7,b8,b9,cO⟩);have E4:=aa Bl;have dy:=aa b3;have lI:=aa kh;have V5:=aa lJ;have KJ:=aa xK;have Zn:=aa Gr;have E5:=aa hT;have HTv:=aa hTv;have HTi:=aa hTi;obtain⟨hvn,_,_,_⟩:=Gr.field;have XZ:=Gr.lt;have M4:=Gr.low
  have KL:lo<=w.heap.size:=by omega
  have T9:g<w.heap.size:=by omega
  clear Bl cO b1 b4 b5 b6 b7 b8 b9 kh lJ xK Gr hT hTv hTi;obtain⟨i0,hi,hz0,hz1,hz2⟩:=info_parts N7
  go_enter func116,ntmps116
  go_wp2_with fail
  have y1:V.b<w.heap.size+1:=by omega
  go_cut [] (λwx=>wx=((w.alloc kJ).alloc (.cells #[.pointer (some ⟨V.b,0,none⟩),.slice none 0 0,.string ⟨V.nm.toArray⟩,.string ⟨f.ag.toArray⟩,.bool false,.slice none 0 0,.string ⟨#[]⟩,.int .i64 0,.slice none 0 0,.slice none 0 0] 308)).drew)
  case first=>
    go_region
    all_goals
      (try go_wp2_with fail)
      go_meet
      rfl
  subst hcut;unfold kJ
  go_wp2_with fail
  refine(KJ.o _ ?hb).mono ?_
  case hb=>exact((((Below.refl _ _).alloc (Nat.le_refl _) _).alloc (by simp) _).drew).mono KL
  rintro e w2 ⟨rfl,hb2⟩
  have hsz:(w.alloc kJ).heap.size=w.heap.size+1:=by simp
  have HBA:=aa (show Below (w.alloc kJ).heap.size (w.alloc kJ) w2 from(((Below.refl _ _).alloc (Nat.le_refl _) _).drew).trans (hb2.mono (by simp)))
  have hcb:w2.heap[w.heap.size+1]?=some (.cells #[.pointer (some ⟨V.b,0,none⟩),.slice none 0 0,.string ⟨V.nm.toArray⟩,.string ⟨f.ag.toArray⟩,.bool f.gW,.slice none 0 0,.string ⟨#[]⟩,.int .i64 0,.slice none 0 0,.slice none 0 0] 308 (0,0)):=
    (hb2.block _ (by simp)).trans (tH (jg w _ _))
  have k6:=ae hcb 6;have kf:=aj hcb;have kl:=af hcb;simp at k6;obtain⟨C0,hC0⟩:∃C0:CK,C0=⟨.pointer (some ⟨V.b,0,none⟩),.string ⟨V.nm.toArray⟩,.string ⟨f.ag.toArray⟩,.bool f.gW,.slice none 0 0,.string ⟨sig.toArray⟩,V⟩:=⟨_,rfl⟩;have DN:=aa hC0
  obtain⟨T1,RP⟩:∃T1:Nat->Prop,T1=λk=>T k\/k=w.heap.size:=⟨_,rfl⟩
  have Bz:=aa RP
  have Zo:C0.V=V:=by rw [hC0]
  have HCV:=aa Zo;have Zp:=aa (show ∀k,C0.V.iv.ownBlock=some k->T1 k from λk e=>by rw [RP];rw [Zo]at e;exact Or.inl (HTi.o k e));have Of:=aa (show ∀k,T1 k->k<w.heap.size+1 from λk e=>by rw [RP]at e;exact e.elim (λe=>by have:=E5.o k e;omega) (λe=>by omega));have Jd:=aa (show Vw lo V pk KH w2 from(((Zn.o.alloc kJ).alloc _).drew).below hb2)
  have HCd:=aa (show Cd ⟨lo,λk=>T1 k\/(Value.slice none 0 0).ownBlock=some k⟩ (w.heap.size+1) C0 (begun pk) (.slice none 0 0) (.slice none 0 0) (.slice none 0 0) (w2.setCell ⟨w.heap.size+1,6,none⟩ (.string ⟨sig.toArray⟩))from
    ⟨by show lo<=_;omega,by rw [ax hcb,hC0];rfl,World.ownsRow_nil _ _ _ _,World.ownsRow_nil _ _ _ _,World.ownsRow_nil _ _ _ _,by simp [Value.ownBlock],by simp [Value.ownBlock],by simp [Value.ownBlock],by simp [Value.ownBlock],by simp [Value.ownBlock],by simp [Value.ownBlock],
     λk hk=>(by have gZ:T1 k\/(Value.slice none 0 0).ownBlock=some k:=hk;have:=gZ.elim (Of.o k) (λe=>by simp [Value.ownBlock]at e);simp only [World.setCell,Array.size_modify];omega),
     λhk=>(by have gZ:T1 (w.heap.size+1)\/(Value.slice none 0 0).ownBlock=some (w.heap.size+1):=hk;have:=gZ.elim (Of.o _) (λe=>by simp [Value.ownBlock]at e);omega),
     by simp [Value.ownBlock],by simp [Value.ownBlock],by simp [Value.ownBlock],
     KH,by rw [Zo];exact Jd.o.set (λk hk=>by have:=(Zn.o.has hk).2;omega) _ _,λk hk=>by
       rw [Zo]at hk;have hlt:=(Zn.o.has hk).2;refine⟨by omega,by simp [Value.ownBlock],by simp [Value.ownBlock],by simp [Value.ownBlock],λe e'=> ?_⟩;have e2:T1 k\/(Value.slice none 0 0).ownBlock=some k:=e';rw [Zo]at e
       rcases e2 with e2|e2
       · rw [RP]at e2
         exact e2.elim (HTv.o k e) (λe3=>by omega)
       · simp [Value.ownBlock]at e2⟩)
  have TS:=aa (show kU ⟨lo,T1⟩ (w.alloc kJ) (w2.setCell ⟨w.heap.size+1,6,none⟩ (.string ⟨sig.toArray⟩))from gU (kU.of HBA.o (by show lo<=_;rw [hsz];omega) (by rw [hsz];exact Of.o)) (by show lo<=_;omega) (λe=>by have:=Of.o _ e;omega) _ _);have c3:(w2.setCell ⟨w.heap.size+1,6,none⟩ (.string ⟨sig.toArray⟩)).cell? ⟨g,o+3,none⟩=some (.slice po f.ay.length pc):=(aC TS.o.dB hg _).trans ((World.cell?_of_block (Below.heap_alloc _ _ _ (Nat.lt_of_lt_of_le hg KL))).trans dy.o)
  have hg2:g<w2.heap.size:=by omega
  clear hb2 hcb hC0
  go_wp2_with fail
  clear k6 kf kl c3;generalize abz:w.heap.size+1=cb at*;have GJ:=aa abz
  have adf:w.heap.size<cb:=by omega
  go_loopg [43] f.ay.length (λn i wr=>∃(j:Nat) (pv sv kv lv:Value),n+j=f.ay.length/\i=.int .i64 j/\Hy (Cd ⟨lo,λk=>T1 k\/pv.ownBlock=some k⟩ cb {C0 with c5:=pv} (enters (f.ay.take j) (begun pk)) sv kv lv wr)/\Hy (wr.ownsRow lo 132 1 pv j (fT ((f.ay.map λx=>x.eF).take j)))/\Hy (∀k,pv.ownBlock=some k->lo<=k/\¬T1 k)/\Hy (kU ⟨lo,T1⟩ (w.alloc kJ) wr))
  case atStart=>exact⟨0,.slice none 0 0,_,_,_,by omega,rfl,by show Cd _ _ _ _ _ _ _ _;have:=HCd.o;rw [DN.o]at this⊢;exact this,by show World.ownsRow _ _ _ _ _ _ _;exact World.ownsRow_nil _ _ _ _,by show ∀k,_;intro k e;simp [Value.ownBlock]at e,TS.o⟩
  obtain⟨j,pv,sv,kv,lv,hj,rfl,nG,uR,HPt,eM⟩:=hrel;have hsw:cb<wr.heap.size:=nG.o.lt
  have RQ:∀b,b<lo->∀q,wr.cell? ⟨b,q,none⟩=w.cell? ⟨b,q,none⟩:=λb hb q=>(aC eM.o.dB hb q).trans (World.cell?_of_block (Below.heap_alloc _ _ _ (Nat.lt_of_lt_of_le hb KL)))
  by_cases hlt:j<f.ay.length
  · obtain⟨gb,rfl,hgb,TP,hat⟩:=E4.o (by omega)
    obtain⟨q0,q1,q2⟩:=hat j hlt;have d0:=(RQ gb hgb _).trans q0;have d1:=(RQ gb hgb _).trans q1;have d2:=(RQ gb hgb _).trans q2
    have KA:gb<wr.heap.size:=by omega
    have ou:=aa (show enters (f.ay.take (j+1)) (begun pk)=(enters (f.ay.take j) (begun pk)).enter f.ay[j].ag by rw [List.take_succ_eq_append_getElem hlt,E3]);have pL:=aa (show fT ((f.ay.map λx=>x.eF).take (j+1))=fT ((f.ay.map λx=>x.eF).take j)++ [.int .i64 f.ay[j].eF] by rw [List.take_succ_eq_append_getElem (by simpa using hlt)];simp [fT]);have M5:=kI (f.ay.take j) (begun pk) (by simp [begun])
    have hle:(f.ay.take j).length=j:=by simp;omega
    obtain⟨Zf,Zg,rfl⟩:=ak uR.o
    have oT:(enters (f.ay.take j) (begun pk)).az.length<=1000000:=by rw [M5.1,hle];simp [begun];omega
    have hl2:(enters (f.ay.take j) (begun pk)).aee<=1000000:=by have:=M5.2.1;rw [hle]at this;simp [begun]at this;omega
    generalize hx:f.ay[j]=x at*;clear hx hat q0 q1 q2 M5 hle RQ;have CN:=nG.o.lt;have g0:=aj nG.o.blk
    have f5:wr.cell? ⟨cb,5,none⟩=some (.slice Zf j Zg):=by rw [ae nG.o.blk];rfl
    have X_:j+1<=maxLen:=by unfold maxLen;omega
    have b2':(j+1)*8<=140737488355328:=by omega
    go_wp2_with fail
    generalize V6:wr.alloc (.cells #[.string ⟨x.ag.toArray⟩,.int .i64 x.ai,.int .i64 x.eF] 301)=wp;have Zq:=aa (show wp.heap[wr.heap.size]?=some (.cells #[.string ⟨x.ag.toArray⟩,.int .i64 x.ai,.int .i64 x.eF] 301 (0,0)) by rw [<-V6];exact aF _ _);have TT:=aa (show Below wr.heap.size wr wp by rw [<-V6];exact(Below.refl _ _).alloc (Nat.le_refl _) _);have KM:=aa (nG.o.below TT.o);have TU:=aa (bE uR.o (λk _ l=>TT.o.block k l):wp.ownsRow lo 132 1 (.slice Zf j Zg) j (fT ((f.ay.map λx=>x.eF).take j)));have p0:=ae Zq.o 0;have p2:=ae Zq.o 2;have psz:=af Zq.o;simp at p0 p2;have f5p:=(TT.o.cell (p:=⟨cb,5,none⟩) CN).trans f5;have g0p:=aj KM.o.blk;have ab0:=KM.o.lt
    have qV:∀v∈ [Value.int .i64 (x.eF:Int)],v.oneCell'=true:=by
      intro v hv
      rcases List.mem_cons.1 hv with rfl|hv
      · rfl
      · cases hv
    have kp:=aa qV;have pZ:=aa (show lo<=(wp.drew.alloc (.cells #[.int .i64 x.eF] 132)).heap.size by simp;omega);clear qV V6 f5 g0 d0 d1 d2
    go_cut [] (λwx=>∃g' cap',Hy (Cd ⟨lo,λk=>T1 k\/(Value.slice (some ⟨g',0,none⟩) (j+1) cap').ownBlock=some k⟩ cb {C0 with c5:=.slice (some ⟨g',0,none⟩) (j+1) cap'} (enters (f.ay.take j) (begun pk)) sv kv lv wx)/\Hy (wx.ownsRow lo 132 1 (.slice (some ⟨g',0,none⟩) (j+1) cap') (j+1) (fT ((f.ay.map λx=>x.eF).take (j+1))))/\Hy (kU ⟨lo,T1⟩ wp wx)/\wx.cell? ⟨wr.heap.size,0,none⟩=some (.string ⟨x.ag.toArray⟩)/\Hy (lo<=g'/\¬T1 g')/\wr.heap.size<wx.heap.size)
    case first=>
      go_region_law (refine cv rfl (.tmp 52) (.tmp 55) 88 rfl lo 132 i0 (.int .i64 0) 1 8 underlying88 hi hz0 hz1 hz2 rfl (by decide) (.slice Zf j Zg) j (fT ((f.ay.map λx=>x.eF).take j)) ?_ ?_ ⟨wp.heap.size,0,none⟩ 1 1 [.int .i64 x.eF] ?_ rfl ?_ kp.o X_ b2' ?_ ?_;(simp [Act.eval,Act.put]);(exact(World.ownsRow.drew TU.o).alloc _);(simp [Act.eval,Act.put]);(exact(pU wp.drew _ _));(exact pZ.o);intro v' w4 hown aB aJ;obtain⟨g4,c4,cu4,rfl,_⟩:=cN hown (by omega);have HG:=aa (dS (aA aB));have HO:=aa hown;have Bh:=aa aJ;have uS:=(HG.o.block cb ab0 (λe=>KM.o.nm (Or.inr e.symm))).trans KM.o.blk;have k5:=ae uS 5;have kf:=aj uS;have kl:=af uS;simp at k5;clear hown aB aJ uS)
      all_goals
        have HQ:=aa (Cd.Kw (.slice Zf j Zg) KM.o HPt.o Zp.o HG.o g4 c4 ((f.ay.map λx=>x.eF).take (j+1)) (by
          have e1:((f.ay.map λx=>x.eF).take (j+1)).length=j+1:=by simp;omega
          rw [e1,pL.o];exact HO.o) ((Bh.o g4 rfl).imp id (λh=>by have h':wp.heap.size+1<=g4:=(by simpa using h);omega)))
        have e1:((f.ay.map λx=>x.eF).take (j+1)).length=j+1:=by simp;omega
        rw [e1]at HQ
        (try go_wp2_with fail)
        go_meet
        refine⟨g4,c4,HQ.o.2.1,HQ.o.2.2.1,HQ.o.1,?_,HQ.o.2.2.2,?_⟩
        · have hne:wr.heap.size≠cb:=by omega
          rw [World.cell?_of_block (Below.heap_setCell _ _ _ _ (show wr.heap.size≠cb from hne))];rw [World.cell?_of_block (HG.o.block wr.heap.size psz (λe=>by have:=(aG uR.o wr.heap.size e.symm).2;omega))];exact p0
        · have:=HG.o.size;simp [World.setCell];omega
    case rest=>
      obtain⟨g',cap',RR,HPx,lF,n0,XV,hsx⟩:=hcut
      go_wp2_with fail
      refine(AZ _ cb _ _ sv kv lv _ RR.o x.ag oT hl2).mono ?_;rintro e' w6 ⟨rfl,kz,sv6,kv6,lv6,ki⟩;have fY:=aa kz;have nO:=aa ki;clear kz ki;go_wp2
      go_roundg (gk-1)
      case measure=>omega
      case rel=>
        refine⟨j+1,.slice (some ⟨g',0,none⟩) (j+1) cap',sv6,kv6,lv6,by omega,by first|rfl|go_num,?_,?_,?_,?_⟩
        · show Cd _ _ _ _ _ _ _ _
          rw [ou.o];exact nO.o
        · show World.ownsRow _ _ _ _ _ _ _
          exact bE HPx.o (λk e _=>fY.o.tab k (Or.inr e))
        · show ∀k,_
          intro k e;simp only [Value.ownBlock,Option.some.injEq]at e;subst e;exact XV.o
        · exact eM.o.trans ((kU.of TT.o (by show lo<=_;omega) (λk e=>by have:=Of.o k e;omega)).trans (lF.o.trans (fY.o.mono (λk e=>Or.inl e))))
  have jU:j=f.ay.length:=by omega
  have E2:¬(j:Int)<(f.ay.length:Int):=by omega
  have HTa:=aa (show f.ay.take j=f.ay by rw [jU,List.take_length]);have HTt:=aa (show(f.ay.map λx=>x.eF).take j=f.ay.map λx=>x.eF by rw [jU];exact List.take_of_length_le (by simp));have XG:=aa (show Cd ⟨lo,λk=>T1 k\/pv.ownBlock=some k⟩ cb {C0 with c5:=pv} (enters f.ay (begun pk)) sv kv lv wr by have:=nG.o;rw [HTa.o]at this;exact this);have Hf:=aa (show pV m S wr g (o+5) f.br from Oe.o.below (B:=lo) hg hS ((((Below.refl _ _).alloc (Nat.le_refl _) kJ).mono KL).trans eM.o.dB));have M5:=kI f.ay (begun pk) (by simp [begun])
  have RH:(enters f.ay (begun pk)).aK.length=0:=by rw [M5.2.2.1];rfl
  have Mz:(enters f.ay (begun pk)).bq.length=0:=by rw [M5.2.2.2.1];rfl
  have hq5:(enters f.ay (begun pk)).lk.length=pk.length:=by rw [M5.2.2.2.2];rfl
  have hq3:(enters f.ay (begun pk)).az.length=f.ay.length:=by rw [M5.1];simp [begun]
  have V7:(enters f.ay (begun pk)).aee<=f.ay.length:=by have:=M5.2.1;simpa [begun]using this
  have ab1:=aa (show Fit (enters f.ay (begun pk)) (sz (m+1) f.br)from⟨by omega,by omega,by omega,by omega,by omega⟩);have T9:=gH fnd (m+1) f.br (enters f.ay (begun pk))
  have Zk:(gen fnd (m+1) f.br (enters f.ay (begun pk))).aK.length<=1000000:=by have:=T9.aK;omega
  have Og:({C0 with c5:=pv}:CK).c0=.pointer (some ⟨V.b,0,none⟩):=by rw [DN.o]
  have kr:=aa (N6 ⟨lo,λk=>T1 k\/pv.ownBlock=some k⟩ wr S hS {C0 with c5:=pv} fnd known (V5.o {C0 with c5:=pv} _ wr Og HCV.o ((((Below.refl _ _).alloc (Nat.le_refl _) kJ).mono KL).trans eM.o.dB)) V.b Og cb m)
  have hgr:g<wr.heap.size:=by omega
  clear M5 T9 Og RQ RH Mz hq3 V7 hq5
  go_wp2_with fail
  refine(kr.o f.br g (o+5) _ sv kv lv _ lI.o Hf.o hg XG.o (kU.refl _ _) ab1.o).mono ?_;rintro e' w6 ⟨rfl,QA⟩;have N0:=aa QA;clear QA
  go_wp2_with fail
  refine(iK N0.o 6 0 Zk).mono ?_;rintro e' w7 ⟨rfl,rY,sv7,kv7,lv7,xh⟩;have yc:=aa xh;have vM:=aa (eM.o.trans (rY.mono (λk e=>Or.inl e)))
  have Zr:T1 w.heap.size:=by rw [Bz.o];exact Or.inr rfl
  have B0:=(vM.o.tab w.heap.size Zr).trans (aF w kJ);unfold kJ at B0;have pP:=aa B0;have qF:=aa (show w7.heap[cb]?=some (.cells #[.pointer (some ⟨V.b,0,none⟩),sv7,.string ⟨V.nm.toArray⟩,.string ⟨f.ag.toArray⟩,.bool f.gW,pv,.string ⟨sig.toArray⟩,.int .i64 (dx fnd m f pk).aee,kv7,lv7] 308 (0,0)) by have:=xh.blk;rw [DN.o]at this;exact this)
  have V8:=aa (show w7.ownsRow lo 132 1 pv f.ay.length (fT (f.ay.map λx=>x.eF)) by
    have:=bE uR.o (w':=w7) (λk e _=>rY.tab k (Or.inr e));rw [HTt.o,jU]at this
    exact this)
  obtain⟨ka,kn,kc,RA⟩:∃a n c,kv7=.slice a n c:=by obtain⟨a,c,e⟩:=ak xh.uD;exact⟨_,_,_,e⟩
  obtain⟨la,ln,lc,hlv⟩:∃a n c,lv7=.slice a n c:=by obtain⟨a,c,e⟩:=ak xh.tM;exact⟨_,_,_,e⟩
  obtain⟨pa,pn,XY,By⟩:∃a n c,pv=.slice a n c:=by obtain⟨a,c,e⟩:=ak uR.o;exact⟨_,_,_,e⟩
  subst RA hlv By;clear xh rY B0;have z0:=ae pP.o 0;have z1:=ae pP.o 1;have z2:=ae pP.o 2;have z3:=ae pP.o 3;have z4:=ae pP.o 4;have z5:=ae pP.o 5;have z6:=ae pP.o 6;have z7:=ae pP.o 7;have zf:=aj pP.o;have zs:=af pP.o;simp at z0 z1 z2 z3 z4 z5 z6 z7;have q0:=ae qF.o 0;have q1:=ae qF.o 1;have q2:=ae qF.o 2;have q3:=ae qF.o 3;have q4:=ae qF.o 4;have q5:=ae qF.o 5;have q6:=ae qF.o 6;have q7:=ae qF.o 7;have q8:=ae qF.o 8;have q9:=ae qF.o 9;have qf:=aj qF.o;have qs:=af qF.o;simp at q0 q1 q2 q3 q4 q5 q6 q7 q8 q9
  have hne:¬w.heap.size=cb:=by omega
  go_wp2;obtain⟨X',hu7,hd7⟩:=yc.o.vw
  have hV7:Vw lo V (dx fnd m f pk).lk X' w7:=by have:=hu7;simp only [HCV.o]at this;exact this
  have KN:∀k,jG V X' k->k≠cb/\sv7.ownBlock≠some k/\(Value.slice ka kn kc).ownBlock≠some k/\(Value.slice la ln lc).ownBlock≠some k/\(k=V.b\/X'.ownBlock=some k->¬(T1 k\/(Value.slice pa pn XY).ownBlock=some k)):=by have:=hd7;simp only [HCV.o]at this;exact this
  have hvp:∀k,jG V X' k->(Value.slice pa pn XY).ownBlock≠some k:=λk hk e=>by
    rcases hk with hk|hk|hk
    · exact(KN k (Or.inl hk)).2.2.2.2 (Or.inl hk) (Or.inr e)
    · exact(HPt.o k e).2 (Zp.o k (by rw [HCV.o];exact hk))
    · exact(KN k (Or.inr (Or.inr hk))).2.2.2.2 (Or.inr hk) (Or.inr e)
  have hvr:∀k,jG V X' k->k≠w.heap.size:=λk hk e=>by
    rcases hk with hk|hk|hk
    · omega
    · have:=E5.o k (HTi.o k hk);omega
    · exact(KN k (Or.inr (Or.inr hk))).2.2.2.2 (Or.inr hk) (Or.inl (e▸Zr))
  have Zs:∀k,T k->T1 k:=λk e=>by rw [Bz.o];exact Or.inl e
  refine bodyPost_ret (v:=Jk V.nm f.ag f.gW (.slice pa pn XY) sig (dx fnd m f pk).aee (.slice ka kn kc) (.slice la ln lc)) (by simp [results,results116,go_sem,z0,z1,z2,z3,z4,z5,z6,z7,zs,Jk]) rfl ⟨_,_,_,X',rfl,?_,RO hV7 hvr _ _ _ _ _ _ _ _,?_,?_,?_,?_,?_⟩
  · exact Od ((kU.of ((Below.refl _ _).alloc (Nat.le_refl _) kJ) KL E5.o).trans (vM.o.mono Zs)) KL (λe=>by have:=E5.o _ e;omega) _ _ _ _ _ _ _ _
  · exact wu V8.o (λe=>(HPt.o _ e).2 Zr) _ _ _ _ _ _ _ _
  · exact wu yc.o.uD (λe=>yc.o.t2 _ e (Or.inl Zr)) _ _ _ _ _ _ _ _
  · exact wu yc.o.tM (λe=>yc.o.t3 _ e (Or.inl Zr)) _ _ _ _ _ _ _ _
  · rintro k (e|e|e)
    · exact⟨λht=>(HPt.o k e).2 (Zs k ht),λhv=>hvp k hv e⟩
    · exact⟨λht=>yc.o.t2 k e (Or.inl (Zs k ht)),λhv=>(KN k hv).2.2.1 e⟩
    · exact⟨λht=>yc.o.t3 k e (Or.inl (Zs k ht)),λhv=>(KN k hv).2.2.2.1 e⟩
  intro k e ht;exact(KN k (e.elim Or.inl (λe=>Or.inr (Or.inr e)))).2.2.2.2 e (Or.inl (Zs k ht))
end Go.Proofs.YtpmmjkiclngpmaaGreatDoor
