/- YtpmmjkiclngpmaaGreatDoorB27 -/
import Derived.Test.YtpmmjkiclngpmaaGreatDoorB24
set_option maxRecDepth 100000
set_option linter.unusedSimpArgs false
set_option linter.unusedVariables false
set_option maxHeartbeats 12800000
namespace Go.Proofs.YtpmmjkiclngpmaaGreatDoor
open Tryz
open Go.RowKit
variable{w:World}{v:Value}{S:Nat->Prop}{md:Mod}{mb:Nat}
def uT(p:Option Addr)(ai:Nat)(s:KS):KS:=if p=none then s.tell 6 ai else s
def iG:List (lu×Option Addr)->List (List UInt8)->KS->KS
 | [],_,s=>s
 |x::r,L,s=>iG r (x.1.ag::L) (uT x.2 x.1.ai (fw L x.1.ag x.1.ai s))
theorem Hh(l:List (lu×Option Addr))(j:Nat)(hj:j<l.length)(L:List (List UInt8))(s:KS):iG (l.drop j) L s=iG (l.drop (j+1)) (l[j].1.ag::L) (uT l[j].2 l[j].1.ai (fw L l[j].1.ag l[j].1.ai s)):=by
 rw [List.drop_eq_getElem_cons hj];rfl
theorem Kk.import{B kb:Nat}{vb:VK}{s:KS}{sv:Value}(h:Kk B kb vb s sv w){j:Nat}(hj:j<vb.pts.length):
  ∃io ic ib,io=some ⟨ib,0,none⟩/\vb.pts.length<=ic/\w.cell? ⟨vb.b,2,none⟩=some (.slice io vb.pts.length ic)/\w.cell? ⟨ib,j,none⟩=some (.pointer vb.pts[j])/\vb.b<w.heap.size/\ib<w.heap.size:=by
 obtain⟨uv,hv,hd⟩:=h.vw;obtain⟨io,ic,h1,h2⟩:=hv.pts;obtain⟨ib,h3,h4,h5,h6⟩:=h2 (by omega);exact⟨io,ic,ib,h3,h5,by rw [<-h1];exact hv.field.2.2.1,h6 j hj,hv.lt,h4⟩
theorem wD(m:Nat)(S:Nat->Prop)(B:Nat)(w0:World)(kb:Nat)(vb:VK)(md:Mod)(hM:kA m S B w0 vb.mb md)(pts:List (Option Addr))(By:vb.pts=pts)(hpl:pts.length=md.aq.length)(hB:B<=w0.heap.size)(s:KS)(w1 w:World)(h:Knows B kb vb w1 s w)(hw:Below B w0 w1)(hn:∀f∈md.aq,f.ag.length<=100000)(hl:md.aq.length<=100000):
  Calls prog 113 #[.pointer (some ⟨kb,0,none⟩)] w λe' w'=>e'=.returned (.tuple #[])/\Knows B kb vb w1 (iG (md.aq.zip pts) [] s) w':=by
 obtain⟨fo,fc,a1,wk⟩:=hM.nN;have Aj:=hM.lt;have c2:=(h.cell hw Aj 0).trans a1;have z:=h.size
 have y2:vb.mb<w.heap.size:=by omega
 obtain⟨hbl,sv,hk⟩:=h;obtain⟨f0,f1,f2,f3⟩:=hk.field;obtain⟨c1,_,y1⟩:=hk.view;have uR:=aa By;have h1:=hk.lt;have h2:=hk.low;have HK:=aa hk;have HB:=aa hbl;have HW:=aa hw;have HF:=aa wk;have HN:=aa hn;have HKB:=aa (aG hk.oV);have ze:=aa (show(md.aq.zip pts).length=md.aq.length by rw [List.length_zip];omega);clear hk hbl hw wk hM a1 hn By;have fO:=za
 have Vz:w.heap.size≠kb:=by omega
 have TR:sv.ownBlock≠some w.heap.size:=λe=>by have:=(HKB.o _ e).2;omega
 go_enter func113,ntmps113
 go_wp2
 go_loopg [17] md.aq.length (λn i wr=>∃(j:Nat) (t:KS) (L:List (List UInt8)),n+j=md.aq.length/\i=.int .i64 j/\Hy (iG (md.aq.zip pts) [] s=iG ((md.aq.zip pts).drop j) L t)/\L.length=j/\Hy (Kk B kb vb t sv wr)/\Hy (yb wr w.heap.size L)/\Hy (Below B w wr)/\w.heap.size<wr.heap.size)
 case atStart=>exact⟨0,s,[],by omega,rfl,rfl,rfl,HK.o.alloc _,yb.new w,(Below.refl _ _).alloc z _,by simp⟩
 obtain⟨j,t,L,hj,rfl,HR,V4,lM,HC,eM,Cu⟩:=hrel
 by_cases hlt:j<md.aq.length
 ·obtain⟨g,rfl,mi,Zl,hat⟩:=HF.o (by omega)
  obtain⟨b0,b1⟩:=hat j hlt;have qC:=(HW.o.trans HB.o).trans eM.o;have d0:=(aC qC mi _).trans b0;have d1:=(aC qC mi _).trans b1
  have KA:g<wr.heap.size:=by omega
  have HD:=aa (Hh (md.aq.zip pts) j (by rw [ze.o];exact hlt) L t);have HZ:=aa (show(md.aq.zip pts)[j]'(by rw [ze.o];exact hlt)=(md.aq[j],pts[j]'(by omega))from List.getElem_zip ..);have Q7:=HN.o md.aq[j] (List.getElem_mem hlt);generalize hf:md.aq[j]=f at*;generalize hp:pts[j]'(by omega)=p at*;have TA:=aa hf;have HPj:=aa hp;clear hf hat b0 b1 c1 c2 f0 f1 f2 f3
  go_wp2_with fail
  refine(y_ B kb vb w.heap.size L t sv _ (by exact lM.o.alloc _) (by exact HC.o.keep (Below.heap_alloc _ _ _ Cu)) Vz z TR f.ag Q7 (by omega) f.ai).mono ?_;rintro e' w3 ⟨rfl,hk3,hc3,zg,hb3⟩;have hs3:=zg.size;have He:=aa (((Below.refl B wr).alloc (by omega) _).trans zg);have iy:=aa hk3;have jl:=aa hc3
  have Zm:wr.heap.size<w3.heap.size:=by simp at hs3;omega
  have ab2:=qC.trans He.o;obtain⟨f0,f1,f2,f3⟩:=hk3.field;have h3l:=hk3.lt;obtain⟨vo,vc,ib,q2,q3,e2,e3',y3,y4⟩:=hk3.import (j:=j) (by rw [uR.o];omega)
  have e3:w3.cell? ⟨ib,j,none⟩=some (.pointer p):=by rw [e3'];simp only [uR.o,hp]
  clear e3';rw [uR.o,hpl]at q3 e2;subst q2
  have e4:w3.cell? ⟨wr.heap.size,1,none⟩=some (.int .i64 f.ai):=by
   have:=hb3 wr.heap.size (by simp) (by have:=lM.o.lt;omega) (by omega);rw [ae (this.trans (aF wr _))];rfl
  clear hp hk3 hc3 hb3 hs3 zg d0 d1 qC ab2
  rcases p with _|pa
  ·have HI:=aa (show uT none f.ai (fw L f.ag f.ai t)=(fw L f.ag f.ai t).tell 6 f.ai from rfl)
   go_wp2_with fail
   refine(yL B kb vb _ sv _ iy.o 6 f.ai).mono ?_;rintro e' w4 ⟨rfl,hb4,hk4⟩;have QF:=aa hk4;have ly:=aa (jl.o.keep (hb4.block _ jl.o.lt Vz));have ab3:=aa (He.o.trans (Bx hb4 iy.o.lt iy.o.low));have mC:=hb4.size;clear hb4 hk4;go_wp2
   go_roundg (gk-1)
   case measure=>omega
   case rel=>
    refine⟨j+1,_,f.ag::L,by omega,by first|rfl|go_num,?_,by simp [V4],QF.o,ly.o,eM.o.trans ab3.o,by omega⟩
    show iG _ _ _=_;rw [HR.o,HD.o,HZ.o];exact congrArg _ HI.o
  ·have HI:=aa (show uT (some pa) f.ai (fw L f.ag f.ai t)=fw L f.ag f.ai t from rfl)
   go_wp2
   go_roundg (gk-1)
   case measure=>omega
   case rel=>
    refine⟨j+1,_,f.ag::L,by omega,by first|rfl|go_num,?_,by simp [V4],iy.o,jl.o,eM.o.trans He.o,by omega⟩
    show iG _ _ _=_;rw [HR.o,HD.o,HZ.o];exact congrArg _ HI.o
 have jU:j=md.aq.length:=by omega
 have HX:=aa (show iG (md.aq.zip pts) [] s=t by rw [HR.o,jU,List.drop_of_length_le (by rw [ze.o];exact Nat.le_refl _)];rfl)
 have E2:¬(j:Int)<(md.aq.length:Int):=by omega
 go_wp2
 go_end0
 exact⟨rfl,by rw [HX.o];exact⟨HB.o.trans eM.o,sv,lM.o⟩⟩
def Hi(s:KS)(x:sL):KS:={s with az:=s.az++ [(x.ag,x.eF)]}
def j8:List sL->List (List UInt8)->KS->KS
 | [],_,s=>s
 |x::r,L,s=>j8 r (x.ag::L) (Hi (fw L x.ag x.ai s) x)
theorem Hj(l:List sL)(j:Nat)(hj:j<l.length)(L:List (List UInt8))(s:KS):j8 (l.drop j) L s=j8 (l.drop (j+1)) (l[j].ag::L) (Hi (fw L l[j].ag l[j].ai s) l[j]):=by
 rw [List.drop_eq_getElem_cons hj];rfl
theorem q_(L:List (List UInt8))(n:List UInt8)(p:Nat)(s:KS):(fw L n p s).lk=s.lk:=by
 unfold fw;split
 ·exact i_ _ _ _
 rfl
theorem zi(l:List sL)(L:List (List UInt8))(s:KS):(j8 l L s).lk=s.lk:=by
 induction l generalizing L s with
 |nil=>rfl
 |cons x r ih=>
  show(j8 r _ _).lk=_;rw [ih];exact q_ _ _ _ _
def o8(ar:gS)(m:Nat)(f:iL)(s:KS):KS:=bV (cy ar (m+1)) f.result f.br (j8 f.ay [] {s with az:= []})
theorem uU(m:Nat)(S:Nat->Prop)(B:Nat)(hS:∀k,S k->k<B)(w0:World)(kb:Nat)(vb:VK)(ar:gS)(hT:tj B w0 S ar kb vb m)(g o:Nat)(f:iL)(hF:lx m S B w0 g o f)(hg:g<B)(kh:lV (λ_=>True) (m+1) f.br)(s:KS)(w1 w:World)(h:Knows B kb vb w1 s w)(hw:Below B w0 w1)(hB:B<=w0.heap.size)(hn:∀x∈f.ay,x.ag.length<=100000)(hl:f.ay.length<=100000)(hf:f.ay.length+sz (m+1) f.br<=1000000)(hlk:s.lk.length+1000*sz (m+1) f.br<=4000000000):
  Calls prog 115 #[.pointer (some ⟨kb,0,none⟩),.pointer (some ⟨g,o,none⟩)] w λe' w'=>e'=.returned (.tuple #[])/\Knows B kb vb w1 (o8 ar m f s) w':=by
 obtain⟨pv,bv,b0,b1,b2,b3,b4,b5,b6,b7,b8,b9,⟨po,pc,By,Bl⟩,cO⟩:=hF;subst By;have Oe:=aa (show Hc m S w0 g (o+5) f.br from⟨⟨bv,b5,b7,b8,b9,cO⟩,b6⟩);have eJ:=aa b4;have E4:=aa Bl;have HT:=aa hT;have lI:=aa kh;have c3:=(h.cell hw hg (o+3)).trans b3;have z:=h.size
 have y1:g<w.heap.size:=by omega
 obtain⟨hbl,sv0,hk⟩:=h;obtain⟨f0,f1,f2,f3⟩:=hk.field;have g0:=aj hk.blk;have h1:=hk.lt;have h2:=hk.low;have HP:=aa (hk.mL (tK w _) (.slice none 0 0) [] (World.ownsRow_nil _ _ _ _) (λk e=>by simp [Value.ownBlock]at e));have HB:=aa hbl;have HW:=aa hw;have HN:=aa hn;obtain⟨i0,hi,hz0,hz1,hz2⟩:=info_parts Ey;clear hk hbl hw Bl cO b0 b1 b2 b3 b4 b5 b6 b7 b8 b9 hn hT kh;have fO:=za
 go_enter func115,ntmps115
 go_wp2_with fail
 have Vz:w.heap.size≠kb:=by omega
 have Zt:(w.setCell ⟨kb,1,none⟩ (.slice none 0 0)).heap.size=w.heap.size:=by simp [World.setCell]
 have D4:=aa (yb.new (w.setCell ⟨kb,1,none⟩ (.slice none 0 0)));rw [Zt]at D4;clear f0 f1 f2 f3 g0 c3
 go_loopg [16] f.ay.length (λn i wr=>∃(j:Nat) (t:KS) (L:List (List UInt8)) (sv:Value),n+j=f.ay.length/\i=.int .i64 j/\Hy (j8 f.ay [] {s with az:= []}=j8 (f.ay.drop j) L t)/\L.length=j/\t.az.length=j/\Hy (Kk B kb vb t sv wr)/\Hy (yb wr w.heap.size L)/\Hy (sv.ownBlock≠some w.heap.size)/\Hy (Below B w wr)/\w.heap.size<wr.heap.size)
 case atStart=>exact⟨0,{s with az:= []},[],.slice none 0 0,by omega,rfl,rfl,rfl,rfl,HP.o.2.alloc _,D4.o,by show Value.ownBlock _≠_;simp [Value.ownBlock],HP.o.1.alloc (by rw [Zt];exact z) _,by simp [World.setCell]⟩
 obtain⟨j,t,L,sv,hj,rfl,HR,V4,ye,lM,HC,Ya,eM,Cu⟩:=hrel;have qC:=(HW.o.trans HB.o).trans eM.o
 by_cases hlt:j<f.ay.length
 ·obtain⟨gb,rfl,hgb,TP,hat⟩:=E4.o (by omega)
  obtain⟨q0,q1,q2⟩:=hat j hlt;have d0:=(aC qC hgb _).trans q0;have d1:=(aC qC hgb _).trans q1;have d2:=(aC qC hgb _).trans q2
  have KA:gb<wr.heap.size:=by omega
  have HD:=aa (Hj f.ay j hlt L t);have Q7:=HN.o f.ay[j] (List.getElem_mem hlt);generalize hx:f.ay[j]=x at*;clear hx hat q0 q1 q2
  go_wp2_with fail
  refine(y_ B kb vb w.heap.size L t sv _ (by exact lM.o.alloc _) (by exact HC.o.keep (Below.heap_alloc _ _ _ Cu)) Vz z Ya.o x.ag Q7 (by omega) x.ai).mono ?_;rintro e' w3 ⟨rfl,hk3,hc3,zg,hb3⟩;have hs3:=zg.size;have He:=aa (((Below.refl B wr).alloc (by omega) _).trans zg);have jl:=aa hc3
  have Zm:wr.heap.size<w3.heap.size:=by simp at hs3;omega
  have TW:=(hb3 wr.heap.size (by simp) (by have:=lM.o.lt;omega) (by omega)).trans (aF wr _);have p0:=ae TW 0;have p2:=ae TW 2;have ps:=af TW;simp at p0 p2;have RT:=xg L x.ag x.ai t;generalize hu:fw L x.ag x.ai t=u at*;have HU:=aa hu
  have Zu:u.az.length=j:=by rw [RT];exact ye
  obtain⟨qo,qc,rfl⟩:=ak hk3.oV;have HSj:=aa (show(Value.slice qo j qc).ownBlock≠some w.heap.size by have:=Ya.o;rw [Zu]at this;exact this);rw [Zu]at hk3;obtain⟨f0,f1,f2,f3⟩:=hk3.field;have g0:=aj hk3.blk;have h3l:=hk3.lt;have iy:=aa hk3;have Bg:=aa (show w3.ownsRow B 303 2 (.slice qo j qc) j (eG u.az) by have:=hk3.oV;rw [Zu]at this;exact this)
  have b1:j+1<=maxLen:=by unfold maxLen;omega
  have b2:(j+1)*24<=140737488355328:=by omega
  have qV:∀v∈ [Value.string ⟨x.ag.toArray⟩,Value.int .i64 x.eF],v.oneCell'=true:=by
   intro v hv
   rcases List.mem_cons.1 hv with rfl|hv
   ·rfl
   ·rcases List.mem_cons.1 hv with rfl|hv
    ·rfl
    ·cases hv
  have kp:=aa qV
  have TF:B<=(w3.drew.alloc (.cells #[.string ⟨x.ag.toArray⟩,.int .i64 x.eF] 303)).heap.size:=by simp;omega
  have pZ:=aa TF;clear qV TF hk3 hc3 hb3 hs3 zg d0 d1 d2 qC TW hu RT
  go_wp2_with fail
  go_region_law (refine cv rfl (.tmp 31) (.tmp 37) 222 rfl B 303 i0 (.agg #[.string ⟨#[]⟩,.int .i64 0]) 2 24 underlying222 hi hz0 hz1 hz2 rfl (by decide) (.slice qo j qc) j (eG u.az) ?_ ?_ ⟨w3.heap.size,0,none⟩ 1 1 [.string ⟨x.ag.toArray⟩,.int .i64 x.eF] ?_ rfl ?_ kp.o b1 b2 ?_ ?_;(simp [Act.eval,Act.put]);(exact(World.ownsRow.drew Bg.o).alloc _);(simp [Act.eval,Act.put]);(exact(pT w3.drew _ _ _));(exact pZ.o);intro v' w4 hown aB aJ;obtain⟨vo,vc,rfl⟩:=ak hown;have HG:=aa (dS (aA aB));have HO:=aa hown;have Bh:=aa aJ;have uS:=(HG.o.block kb h3l (λe=>iy.o.n1 e.symm)).trans iy.o.blk;have k1:=ae uS 1;have kf:=aj uS;have kl:=af uS;simp at k1;clear hown aB aJ uS)
  all_goals
   have HQ:=aa (iy.o.mL HG.o (.slice vo (j+1) vc) (u.az++ [(x.ag,x.eF)]) (by rw [ow,List.length_append,Zu];exact HO.o) (λq e=>(Bh.o q e).imp (λh=>by exact h) (λh=>by have h':w3.heap.size+1<=q:=(by simpa using h);omega)));have ly:=aa (show yb (w4.setCell ⟨kb,1,none⟩ (.slice vo (j+1) vc)) w.heap.size (x.ag::L)from jl.o.keep ((Below.heap_setCell _ _ _ _ Vz).trans (HG.o.block _ jl.o.lt (λe=>HSj.o e.symm))))
   have ri:=aa (show(Value.slice vo (j+1) vc).ownBlock≠some w.heap.size from λe=>by
    rcases Bh.o _ e with h|h
    ·exact HSj.o h
    ·have h':w3.heap.size+1<=w.heap.size:=(by simpa using h);omega)
   have mC:=HG.o.size
   have hs5:(w4.setCell ⟨kb,1,none⟩ (.slice vo (j+1) vc)).heap.size=w4.heap.size:=by simp [World.setCell]
   go_wp2
   go_roundg (gk-1)
   case measure=>omega
   case rel=>
    refine⟨j+1,Hi u x,x.ag::L,_,by omega,by first|rfl|go_num,?_,by simp [V4],by simp [Hi,Zu],HQ.o.2,ly.o,ri.o,eM.o.trans (He.o.trans HQ.o.1),by rw [hs5];omega⟩
    show j8 _ _ _=_;rw [HR.o,HD.o]
    first|done|rw [HU.o]
 have jU:j=f.ay.length:=by omega
 have HX:=aa (show j8 f.ay [] {s with az:= []}=t by rw [HR.o,jU,List.drop_length];rfl);have HV:=aa (show o8 ar m f s=bV (cy ar (m+1)) f.result f.br t by unfold o8;rw [HX.o])
 have E2:¬(j:Int)<(f.ay.length:Int):=by omega
 have HKn:=aa (show Knows B kb vb w1 t wr from⟨HB.o.trans eM.o,sv,lM.o⟩);have r4:=(aC qC hg (o+4)).trans eJ.o
 have hgr:g<wr.heap.size:=by omega
 have hft:eD t (sz (m+1) f.br):=⟨by omega,by have:=zi f.ay [] {s with az:= []};rw [HX.o]at this;rw [this];exact hlk⟩;clear qC
 go_wp2_with fail
 go_region_with (go_at_call 177;go_must (refine(pg HT.o f.br g (o+5) t w1 _ lI.o Oe.o hg (by exact tS HKn.o) HW.o hft f.result).mono ?_;rintro e' w8 ⟨rfl,M3⟩;have Zh:=aa M3;clear M3))
 all_goals
  go_wp2
  go_end0
  exact⟨rfl,by rw [HV.o];exact Zh.o⟩
def gK(ar:gS)(m:Nat):List iL->KS->KS
 | [],s=>s
 |f::r,s=>gK ar m r (o8 ar m f s)
theorem Hk(ar:gS)(m:Nat)(l:List iL)(j:Nat)(hj:j<l.length)(s:KS):gK ar m (l.drop j) s=gK ar m (l.drop (j+1)) (o8 ar m l[j] s):=by
 rw [List.drop_eq_getElem_cons hj];rfl
def rj(ar:gS)(m:Nat)(md:Mod)(pts:List (Option Addr)):KS:=
 gK ar m md.aR (ik (md.aR.map λf=>(f.ag,f.ai)) [] (iG (md.aq.zip pts) [] ⟨[],0,0,[]⟩))
theorem zj(l:List (lu×Option Addr))(L:List (List UInt8))(s:KS):(iG l L s).lk=s.lk:=by
 induction l generalizing L s with
 |nil=>rfl
 |cons x r ih=>
  show(iG r _ _).lk=_;rw [ih];unfold uT;split
  ·rw [i_,q_]
  ·rw [q_]
theorem wE(l:List (List UInt8×Nat))(L:List (List UInt8))(s:KS):(ik l L s).lk=s.lk:=by
 induction l generalizing L s with
 |nil=>rfl
 |cons x r ih=>
  show(ik r _ _).lk=_;rw [ih,q_]
theorem Jl(ar:gS)(m:Nat)(f:iL)(s:KS):(o8 ar m f s).lk.length<=s.lk.length+1000*sz (m+1) f.br:=by
 unfold o8;have:=mV (g:=cy ar (m+1)) (want:=f.result) (e:=f.br) (s:=j8 f.ay [] {s with az:= []}) (yY ar (m+1) f.br);rw [zi]at this;exact this
def Am(m:Nat)(l:List iL):Nat:=(l.map λf=>sz (m+1) f.br).sum
theorem E7(m:Nat)(l:List iL)(j:Nat)(hj:j<l.length):Am m (l.drop j)=sz (m+1) l[j].br+Am m (l.drop (j+1)):=by
 unfold Am;rw [List.drop_eq_getElem_cons hj,List.map_cons,List.sum_cons]
structure TX (m:Nat) (md:Mod):Prop where
 fl:md.aR.length<=100000
 il:md.aq.length<=100000
 fn:∀f∈md.aR,f.ag.length<=100000
 im:∀f∈md.aq,f.ag.length<=100000
 sh:∀f∈md.aR,lV (λ_=>True) (m+1) f.br
 pn:∀f∈md.aR,∀x∈f.ay,x.ag.length<=100000
 pl:∀f∈md.aR,f.ay.length<=100000
 sz:∀f∈md.aR,f.ay.length+sz (m+1) f.br<=1000000
 all:Am m md.aR<=1000000
theorem xL(m:Nat)(S:Nat->Prop)(B:Nat)(hS:∀k,S k->k<B)(w0:World)(vb:VK)(md:Mod)(hM:kA m S B w0 vb.mb md)(KH:Value)(Gr:Vw B vb [] KH w0)(hB:B<=w0.heap.size)(hpl:vb.pts.length=md.aq.length)(ar:gS)(lJ:Ew B w0 vb ar)(bp:TX m md):
  Calls prog 76 #[.pointer (some ⟨vb.b,0,none⟩)] w0 λe' w'=>e'=.returned (.tuple #[.int .i64 (rj ar m md vb.pts).aK,.int .i64 (rj ar m md vb.pts).ai])/\Below B w0 w'/\∃qA,Vw B vb (rj ar m md vb.pts).lk qA w':=by
 have HT:=aa (N_ B w0 S hS ar w0.heap.size vb lJ m);have HM:=aa hM;have iD:=aa bp;obtain⟨fo,fc,a1,wk⟩:=hM.aR;have Aj:=hM.lt;have VB:=aa wk;have Ji:=aa a1;have hl:=bp.fl;have hall:=bp.all
 have RU:=aa (show Knows B w0.heap.size vb w0 ⟨[],0,0,[]⟩ (w0.alloc (.cells #[.pointer (some ⟨vb.b,0,none⟩),.slice none 0 0,.int .i64 0,.int .i64 0] 224))from
  ⟨(Below.refl _ _).alloc hB _,.slice none 0 0,⟨hB,aF _ _,World.ownsRow_nil _ _ _ _,by simp [Value.ownBlock],KH,Gr.alloc _,λk hk=>⟨by have:=(Gr.has hk).2;omega,by simp [Value.ownBlock]⟩⟩⟩)
 clear hM bp a1 wk Gr
 go_enter func76,ntmps76
 go_wp2_with fail
 refine(wD m S B w0 w0.heap.size vb md HM.o vb.pts rfl hpl hB ⟨[],0,0,[]⟩ w0 _ RU.o (Below.refl _ _) iD.o.im iD.o.il).mono ?_;rintro e' w2 ⟨rfl,hk2⟩;have uQ:=aa hk2;clear hk2
 go_wp2_with fail
 refine(zb m S B w0 w0.heap.size vb md HM.o hB _ w0 _ uQ.o (Below.refl _ _) iD.o.fn iD.o.fl).mono ?_;rintro e' w3 ⟨rfl,hk3⟩;obtain⟨c1,_,y1⟩:=hk3.2.choose_spec.view;have c2:=(hk3.cell (Below.refl _ w0) Aj 1).trans Ji.o;have z3:=hk3.size
 have y2:vb.mb<w3.heap.size:=by omega
 have iy:=aa hk3;clear hk3
 have RV:(ik (md.aR.map λf=>(f.ag,f.ai)) [] (iG (md.aq.zip vb.pts) [] ⟨[],0,0,[]⟩)).lk= []:=by rw [wE,zj]
 generalize hs3:ik (md.aR.map λf=>(f.ag,f.ai)) [] (iG (md.aq.zip vb.pts) [] ⟨[],0,0,[]⟩)=s3 at*;have nH:=aa hs3;have yU:=aa RV;clear hs3 RV;go_wp2
 go_loopg [21] md.aR.length (λn i wr=>∃(j:Nat) (t:KS),n+j=md.aR.length/\i=.int .i64 j/\Hy (gK ar m md.aR s3=gK ar m (md.aR.drop j) t)/\t.lk.length+1000*Am m (md.aR.drop j)<=4000000000/\Hy (Knows B w0.heap.size vb w0 t wr))
 case atStart=>exact⟨0,s3,by omega,rfl,rfl,by rw [yU.o,List.drop_zero];simp only [List.length_nil];omega,iy.o⟩
 obtain⟨j,t,hj,rfl,HR,hlk,lM⟩:=hrel;obtain⟨d1,_,yr1⟩:=lM.o.2.choose_spec.view;have d2:=(lM.o.cell (Below.refl _ w0) Aj 1).trans Ji.o;have zr:=lM.o.size
 have yr2:vb.mb<wr.heap.size:=by omega
 by_cases hlt:j<md.aR.length
 ·obtain⟨g,rfl,mi,Zl,hat⟩:=VB.o (by omega)
  have qG:=List.getElem_mem hlt;have HD:=aa (Hk ar m md.aR j hlt t);have fF:=E7 m md.aR j hlt
  have Rt:t.lk.length+1000*sz (m+1) md.aR[j].br<=4000000000:=by omega
  have oZ:=aa (show(o8 ar m md.aR[j] t).lk.length+1000*Am m (md.aR.drop (j+1))<=4000000000 by have:=Jl ar m md.aR[j] t;omega);have ox:=aa (hat j hlt)
  have KA:g<wr.heap.size:=by omega
  have Em:=aa qG;clear hat qG c1 c2 fF hlk
  go_wp2_with fail
  refine(uU m S B hS w0 w0.heap.size vb ar HT.o g (j*10) md.aR[j] ox.o mi (iD.o.sh _ Em.o) t w0 _ lM.o (Below.refl _ _) hB (iD.o.pn _ Em.o) (iD.o.pl _ Em.o) (iD.o.sz _ Em.o) Rt).mono ?_;rintro e' w4 ⟨rfl,hk4⟩;have QF:=aa hk4;clear hk4;go_wp2
  go_roundg (gk-1)
  case measure=>omega
  case rel=>
   refine⟨j+1,o8 ar m md.aR[j] t,by omega,by first|rfl|go_num,?_,oZ.o,QF.o⟩
   show gK _ _ _ _=_;rw [HR.o,HD.o]
 have jU:j=md.aR.length:=by omega
 have HX:=aa (show rj ar m md vb.pts=t by unfold rj;rw [nH.o,HR.o,jU,List.drop_length];rfl)
 have E2:¬(j:Int)<(md.aR.length:Int):=by omega
 obtain⟨hbr,svr,hkr⟩:=lM.o;obtain⟨f0,f1,f2,f3⟩:=hkr.field;have CN:=hkr.lt;have eM:=aa hbr;have wF:=aa hkr.vw;clear hbr hkr c1 c2 hlk
 go_wp2_with fail
 go_quiet (fail)
 go_wp2
 go_ret2
 refine⟨by rw [HX.o];rfl,eM.o.trans ((bA wr nq).mono zr),?_⟩;obtain⟨uv,hu,_⟩:=wF.o;exact⟨uv,by rw [HX.o];exact hu.below (bA wr nq)⟩
theorem Jm{α:Type}(c:α->List Value)(n:Nat)(hc:∀x,(c x).length=n)(l:List α)(j:Nat)(hj:j<l.length)(i:Nat)(hi:i<n):(l.flatMap c)[j*n+i]?=(c l[j])[i]?:=by
 induction l generalizing j with
 |nil=>simp at hj
 |cons x r ih=>
  rw [List.flatMap_cons]
  cases j with
  |zero=>
   rw [Nat.zero_mul,Nat.zero_add,List.getElem?_append_left (by rw [hc];exact hi)]
   rfl
  |succ j=>
   rw [List.getElem?_append_right (by rw [hc,Nat.add_mul];omega),hc,show(j+1)*n+i-n=j*n+i by rw [Nat.add_mul];omega,ih j (by simpa using hj)]
   rfl
theorem Jn{base:Nat}{e:TypeId}{size:Nat}{n:Nat}{xs:List Value}(h:w.ownsRow base e size v n xs):
  ∃o c,v=.slice o n c/\(0<n->∃g,o=some ⟨g,0,none⟩/\base<=g/\g<w.heap.size/\n<=c/\∀i,i<n*size->w.cell? ⟨g,i,none⟩=xs[i]?):=by
 rcases h.2 with⟨hv,h0⟩|⟨g,cap,aU,hv,hb0,aed,vJ,hcm,hcs,iX⟩
 ·exact⟨none,0,by rw [hv,h0],λhp=>by omega⟩
 refine⟨_,_,hv,λ_=>⟨g,rfl,hb0,af aed,vJ,λi hi=> ?_⟩⟩;rw [ae aed,<-iX,List.getElem?_take,if_pos hi];simp
theorem KO{ps:List sL}(h:o5 S w v ps):o7 w w.heap.size v ps:=by
 rcases h with⟨rfl,rfl⟩|⟨g,cap,aU,rfl,hs,hc,hn,ht⟩
 ·exact⟨none,0,rfl,λhp=>by simp at hp⟩
 refine⟨_,_,rfl,λ_=>⟨g,rfl,af hc,hn,λj hj=> ?_⟩⟩
 have hl:∀i,i<3->w.cell? ⟨g,j*3+i,none⟩=(gJ ps[j])[i]?:=by
  intro i hi;rw [ae hc,<-Jm gJ 3 (λx=>rfl) ps j hj i hi,<-ht,List.getElem?_take,if_pos (by omega)];simp
 exact⟨hl 0 (by omega),hl 1 (by omega),hl 2 (by omega)⟩
theorem KP{fs:List iL}{bvs:Nat->Value}(h:∀j,(hj:j<fs.length)->bg S w (bvs j) fs[j].br.aw):∃m,∀m',m<=m'->∀j,(hj:j<fs.length)->eB m' S w (bvs j) fs[j].br.aw:=by
 have:∀k,k<=fs.length->∃m,∀j,(hj:j<fs.length)->j<k->eB m S w (bvs j) fs[j].br.aw:=by
  intro k
  induction k with
  |zero=>intro _;exact⟨0,λj _ h=>by omega⟩
  |succ k ih=>
   intro hk;obtain⟨m,hm⟩:=ih (by omega);obtain⟨n,hn⟩:=h k (by omega);refine⟨max m n,λj hj hjk=> ?_⟩
   by_cases e:j=k
   ·subst e;exact hn.mono (by omega)
   ·exact(hm j hj (by omega)).mono (by omega)
 obtain⟨m,hm⟩:=this fs.length (Nat.le_refl _);exact⟨m,λm' h' j hj=>(hm j hj hj).mono h'⟩
theorem kx.cells{lo:Nat}(h:kx lo w mb md):∃m,∀m',m<=m'->kA m' (λk=>k<w.heap.size) w.heap.size w mb md:=by
 obtain⟨iv,fv,xs,hb,hi,hf,v_⟩:=h
 have hch:∀j,∃pv bv,∀(hj:j<md.aR.length),(xs.drop (j*10)).take 10=d_ md.aR[j] pv bv/\o5 (λk=>lo<=k) w pv md.aR[j].ay/\bg (λk=>lo<=k) w bv md.aR[j].br.aw:=by
  intro j
  by_cases hj:j<md.aR.length
  ·obtain⟨pv,bv,r⟩:=v_ j hj;exact⟨pv,bv,λ_=>r⟩
  ·exact⟨.slice none 0 0,.slice none 0 0,λh=>absurd h hj⟩
 have hp:=λj=>(hch j).choose_spec
 obtain⟨m,hm⟩:=KP (S:=λk=>k<w.heap.size) (w:=w) (fs:=md.aR) (bvs:=λj=>(hp j).choose) (λj hj=>(((hp j).choose_spec hj).2.2).bound.mono (λk h _=>h.2));refine⟨m,λm' Ve=>⟨af hb,?_,?_⟩⟩
 ·obtain⟨o,c,rfl,hr⟩:=Jn hi
  refine⟨o,c,by rw [ae hb];rfl,λjR=> ?_⟩;obtain⟨g,rfl,_,hg,hc,hcell⟩:=hr jR;refine⟨g,rfl,hg,hc,λj hj=> ?_⟩
  have hl:∀i,i<2->w.cell? ⟨g,j*2+i,none⟩=(dI md.aq[j])[i]?:=λi uV=>by
   rw [hcell _ (by omega),Jm dI 2 (λx=>rfl) md.aq j hj i uV]
  exact⟨hl 0 (by omega),hl 1 (by omega)⟩
 obtain⟨o,c,rfl,hr⟩:=Jn hf;refine⟨o,c,by rw [ae hb];rfl,λjR=> ?_⟩;obtain⟨g,rfl,_,hg,hc,hcell⟩:=hr jR;refine⟨g,rfl,hg,hc,λj hj=> ?_⟩;obtain⟨ht,Bl,cO⟩:=(hp j).choose_spec hj
 have hl:∀i,i<10->w.cell? ⟨g,j*10+i,none⟩=(d_ md.aR[j] (hch j).choose (hp j).choose)[i]?:=λi uV=>by
  rw [hcell _ (by omega),<-ht,List.getElem?_take,if_pos uV,List.getElem?_drop]
 exact⟨_,_,hl 0 (by omega),hl 1 (by omega),hl 2 (by omega),hl 3 (by omega),hl 4 (by omega),hl 5 (by omega),hl 6 (by omega),hl 7 (by omega),hl 8 (by omega),hl 9 (by omega),KO Bl,hm m' Ve j hj⟩
structure CO (w:World) (mb g:Nat) (fs:List (List UInt8×Bool)):Prop where
 row:∃fo fc,w.cell? ⟨mb,1,none⟩=some (.slice fo fs.length fc)/\(0<fs.length->fo=some ⟨g,0,none⟩/\fs.length<=fc)
 cells:∀j,(hj:j<fs.length)->w.cell? ⟨g,j*10,none⟩=some (.string ⟨(fs[j].1).toArray⟩)/\w.cell? ⟨g,j*10+2,none⟩=some (.bool fs[j].2)
 lt:mb<w.heap.size/\(0<fs.length->g<w.heap.size)
 small:fs.length<=100000
def eE(gW:Bool)(ag:List UInt8):Nat->List (List UInt8×Bool)->Option Nat
 |_,[]=>none
 |k,x::r=>if(gW=true->x.2=true)/\x.1=ag then some k else eE gW ag (k+1) r
def sP(g:Nat)(o:Option Nat):Option Addr:=o.map λj=>⟨g,j*10,none⟩
theorem xj(gW:Bool)(ag:List UInt8)(fs:List (List UInt8×Bool))(j:Nat)(hj:j<fs.length):eE gW ag j (fs.drop j)=if(gW=true->fs[j].2=true)/\fs[j].1=ag then some j else eE gW ag (j+1) (fs.drop (j+1)):=by
 rw [List.drop_eq_getElem_cons hj];rfl
theorem yg{a b:Option Addr}(h:a=b):Ending.returned (.pointer a)=Ending.returned (.pointer b):=by rw [h]
theorem Jo(w:World)(mb g:Nat)(fs:List (List UInt8×Bool))(h:CO w mb g fs)(ag:List UInt8):
  Calls prog 280 #[.pointer (some ⟨mb,0,none⟩),.string ⟨ag.toArray⟩] w λe w'=>e=.returned (.pointer (sP g (eE false ag 0 fs)))/\w'=w:=by
 obtain⟨fo,fc,hr,vL⟩:=h.row;have hlt:=h.lt.1;have hsm:=h.small;have HC:=aa h.cells;have HG:=aa h.lt.2;have HFo:=aa vL;clear h vL
 go_enter func280,ntmps280
 go_wp2
 go_loop [11] (λi=>∃j:Nat,j<=fs.length/\i=.int .i64 j/\Hy (eE false ag 0 fs=eE false ag j (fs.drop j))) (λi=>fs.length-(intOf i).toNat)
 case atStart=>exact⟨0,Nat.zero_le _,rfl,by show eE _ _ _ _=_;rfl⟩
 obtain⟨j,hj,rfl,HR⟩:=hrel
 by_cases hl:j<fs.length
 ·obtain⟨c0,c2⟩:=HC.o j hl
  have hg:=HG.o (by omega);obtain⟨rfl,Zl⟩:=HFo.o (by omega);have HD:=aa (xj false ag fs j hl)
  rcases he:(fs[j].1==ag)with _|_
  ·have hne:¬fs[j].1=ag:=by simpa using he
   go_wp2
   go_round
   case rel=>exact⟨j+1,by omega,by go_num,by show eE _ _ _ _=_;rw [HR.o,HD.o,if_neg (λh=>hne h.2)]⟩
   case measure=>simp [intOf];omega
  ·have heq:fs[j].1=ag:=by simpa using he
   go_wp2;go_ret;exact⟨yg (by rw [HR.o,HD.o,if_pos ⟨λh=>(by cases h),heq⟩];rfl),rfl⟩
 have jU:j=fs.length:=by omega
 subst jU;have HX:=aa (show eE false ag 0 fs=none by rw [HR.o,List.drop_length];rfl);go_wp2;go_ret;exact⟨yg (by rw [HX.o];rfl),rfl⟩
theorem CP(w:World)(mb g:Nat)(fs:List (List UInt8×Bool))(h:CO w mb g fs)(ag:List UInt8):
  Calls prog 214 #[.pointer (some ⟨mb,0,none⟩),.string ⟨ag.toArray⟩] w λe w'=>e=.returned (.pointer (sP g (eE true ag 0 fs)))/\w'=w:=by
 obtain⟨fo,fc,hr,vL⟩:=h.row;have hlt:=h.lt.1;have hsm:=h.small;have HC:=aa h.cells;have HG:=aa h.lt.2;have HFo:=aa vL;clear h vL
 go_enter func214,ntmps214
 go_wp2
 go_loop [11] (λi=>∃j:Nat,j<=fs.length/\i=.int .i64 j/\Hy (eE true ag 0 fs=eE true ag j (fs.drop j))) (λi=>fs.length-(intOf i).toNat)
 case atStart=>exact⟨0,Nat.zero_le _,rfl,by show eE _ _ _ _=_;rfl⟩
 obtain⟨j,hj,rfl,HR⟩:=hrel
 by_cases hl:j<fs.length
 ·obtain⟨c0,c2⟩:=HC.o j hl
  have hg:=HG.o (by omega);obtain⟨rfl,Zl⟩:=HFo.o (by omega);have HD:=aa (xj true ag fs j hl)
  rcases hp:fs[j].2 with _|_
  ·rw [hp]at c2
   have HP:=aa hp;clear hp;go_wp2
   go_round
   case rel=>exact⟨j+1,by omega,by go_num,by show eE _ _ _ _=_;rw [HR.o,HD.o,if_neg (λh=>by have:=h.1 rfl;rw [HP.o]at this;cases this)]⟩
   case measure=>simp [intOf];omega
  ·rw [hp]at c2
   have HP:=aa hp;clear hp
   rcases he:(fs[j].1==ag)with _|_
   ·have hne:¬fs[j].1=ag:=by simpa using he
    go_wp2
    go_round
    case rel=>exact⟨j+1,by omega,by go_num,by show eE _ _ _ _=_;rw [HR.o,HD.o,if_neg (λh=>hne h.2)]⟩
    case measure=>simp [intOf];omega
   ·have heq:fs[j].1=ag:=by simpa using he
    go_wp2;go_ret;exact⟨yg (by rw [HR.o,HD.o,if_pos ⟨λ_=>HP.o,heq⟩];rfl),rfl⟩
 have jU:j=fs.length:=by omega
 subst jU;have HX:=aa (show eE true ag 0 fs=none by rw [HR.o,List.drop_length];rfl);go_wp2;go_ret;exact⟨yg (by rw [HX.o];rfl),rfl⟩
def mW(f:iL):List Nat×Nat:=(f.ay.map (λx=>x.eF),f.result)
def eZ(md:Mod):List (List UInt8×Bool):=md.aR.map λf=>(f.ag,f.gW)
def jn(gW:Bool)(ag:List UInt8):List iL->Option iL
 | []=>none
 |f::r=>if(gW=true->f.gW=true)/\f.ag=ag then some f else jn gW ag r
theorem qh(gW:Bool)(ag:List UInt8)(fs:List iL)(k:Nat):
  (eE gW ag k (fs.map λf=>(f.ag,f.gW))=none/\jn gW ag fs=none)\/∃j f,eE gW ag k (fs.map λf=>(f.ag,f.gW))=some (k+j)/\jn gW ag fs=some f/\fs[j]?=some f:=by
 induction fs generalizing k with
 |nil=>exact Or.inl ⟨rfl,rfl⟩
 |cons x r ih=>
  simp only [List.map_cons,eE,jn]
  by_cases h:(gW=true->x.gW=true)/\x.ag=ag
  ·rw [if_pos h,if_pos h]
   exact Or.inr ⟨0,x,rfl,rfl,rfl⟩
  ·rw [if_neg h,if_neg h]
   rcases ih (k+1)with⟨a,b⟩|⟨j,f,a,b,c⟩
   ·exact Or.inl ⟨a,b⟩
   ·exact Or.inr ⟨j+1,f,by rw [a];congr 1;omega,b,by simpa using c⟩
def j9(ag:List UInt8):List (Option Mod)->Option iL
 | []=>none
 |none::r=>j9 ag r
 |some md::r=>match jn true ag md.aR with
  |some f=>some f
  |none=>j9 ag r
def rk(md:Mod)(eN:List (Option Mod))(ag:List UInt8):Option (List Nat×Nat):=
 match jn false ag md.aR with
 |some f=>some (mW f)
 |none=>(j9 ag eN).map mW
def rowOf(w:World)(mb:Nat):Nat:=match w.cell? ⟨mb,1,none⟩with|some (.slice (some a) _ _)=>a.block|_=>0
theorem kA.aZ{m:Nat}(h:kA m S w.heap.size w mb md)(hl:md.aR.length<=100000):CO w mb (rowOf w mb) (eZ md):=by
 obtain⟨fo,fc,hc,hr⟩:=h.aR
 have hlen:(eZ md).length=md.aR.length:=by simp [eZ]
 have hg:0<md.aR.length->fo=some ⟨rowOf w mb,0,none⟩:=λhp=>by
  obtain⟨g,rfl,_⟩:=hr hp;simp [rowOf,hc]
 refine⟨⟨fo,fc,by rw [hlen];exact hc,λhp=> ?_⟩,λj hj=> ?_,⟨h.lt,λhp=> ?_⟩,by rw [hlen];exact hl⟩
 ·rw [hlen]at hp⊢
  obtain⟨g,_,_,h3,_⟩:=hr hp;exact⟨hg hp,h3⟩
 ·rw [hlen]at hj
  obtain⟨g,rfl,h2,h3,h4⟩:=hr (by omega);have e:=hg (by omega);simp only [Option.some.injEq,Addr.mk.injEq]at e;obtain⟨e,_⟩:=e;obtain⟨pv,bv,b0,b1,b2,_⟩:=h4 j hj;rw [<-e];simp only [eZ,List.getElem_map];exact⟨b0,b2⟩
 rw [hlen]at hp;obtain⟨g,rfl,h2,_⟩:=hr hp;have e:=hg hp;simp only [Option.some.injEq,Addr.mk.injEq]at e;rw [<-e.1];exact h2
end Go.Proofs.YtpmmjkiclngpmaaGreatDoor
