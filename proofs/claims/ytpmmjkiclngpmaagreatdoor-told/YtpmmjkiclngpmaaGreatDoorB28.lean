/- YtpmmjkiclngpmaaGreatDoorB28 -/
import Derived.Test.YtpmmjkiclngpmaaGreatDoorB27
import Derived.Test.YtpmmjkiclngpmaaGreatDoorB26
set_option maxRecDepth 100000
set_option linter.unusedSimpArgs false
set_option linter.unusedVariables false
set_option maxHeartbeats 12800000
namespace Go.Proofs.YtpmmjkiclngpmaaGreatDoor
open Tryz
open Go.RowKit
variable{ps:List sL}{pv:Value}{B B' g o m mb lo:Nat}{w w':World}{f:iL}{S:Nat->Prop}{md:Mod}{x:Option (Nat×Mod)}
theorem o7.mono(h:o7 w B pv ps)(hB:B<=B'):o7 w B' pv ps:=by
 obtain⟨po,pc,h1,h2⟩:=h;exact⟨po,pc,h1,λhp=>by obtain⟨gb,a,b,c,d⟩:=h2 hp;exact⟨gb,a,by omega,c,d⟩⟩
theorem lx.mono(h:lx m S B w g o f)(hB:B<=B'):lx m S B' w g o f:=by
 obtain⟨pv,bv,b0,b1,b2,b3,b4,b5,b6,b7,b8,b9,hp,hb⟩:=h;exact⟨pv,bv,b0,b1,b2,b3,b4,b5,b6,b7,b8,b9,hp.mono hB,hb⟩
theorem kA.mono(h:kA m S B w mb md)(hB:B<=B'):kA m S B' w mb md:=by
 obtain⟨h1,⟨io,ic,h2,h3⟩,fo,fc,h4,h5⟩:=h;refine⟨by omega,⟨io,ic,h2,λhp=> ?_⟩,fo,fc,h4,λhp=> ?_⟩
 ·obtain⟨ib,a,b,c⟩:=h3 hp;exact⟨ib,a,by omega,c⟩
 obtain⟨g,a,b,c,d⟩:=h5 hp;exact⟨g,a,by omega,c,λj hj=>(d j hj).mono hB⟩
theorem o7.below(h:o7 w B pv ps)(hw:Below B w w'):o7 w' B pv ps:=by
 obtain⟨po,pc,h1,h2⟩:=h;exact⟨po,pc,h1,λhp=>by obtain⟨gb,a,b,c,d⟩:=h2 hp;exact⟨gb,a,b,c,λj hj=>by obtain⟨x,y,z⟩:=d j hj;exact⟨(aC hw b _).trans x,(aC hw b _).trans y,(aC hw b _).trans z⟩⟩⟩
theorem lx.below(h:lx m S B w g o f)(hS:∀k,S k->k<B)(hg:g<B)(hw:Below B w w'):lx m S B w' g o f:=by
 obtain⟨pv,bv,b0,b1,b2,b3,b4,b5,b6,b7,b8,b9,hp,hb⟩:=h;exact⟨pv,bv,(aC hw hg _).trans b0,(aC hw hg _).trans b1,(aC hw hg _).trans b2,(aC hw hg _).trans b3,(aC hw hg _).trans b4,(aC hw hg _).trans b5,(aC hw hg _).trans b6,(aC hw hg _).trans b7,(aC hw hg _).trans b8,(aC hw hg _).trans b9,hp.below hw,hb.keep (λk h1 _=>⟨h1,hw.block k (hS k h1)⟩)⟩
theorem kA.below(h:kA m S B w mb md)(hS:∀k,S k->k<B)(hw:Below B w w'):kA m S B w' mb md:=by
 obtain⟨h1,⟨io,ic,h2,h3⟩,fo,fc,h4,h5⟩:=h;refine⟨h1,⟨io,ic,(aC hw h1 _).trans h2,λhp=> ?_⟩,fo,fc,(aC hw h1 _).trans h4,λhp=> ?_⟩
 ·obtain⟨ib,a,b,c,d⟩:=h3 hp
  exact⟨ib,a,b,c,λj hj=>⟨(aC hw b _).trans (d j hj).1,(aC hw b _).trans (d j hj).2⟩⟩
 obtain⟨g,a,b,c,d⟩:=h5 hp;exact⟨g,a,b,c,λj hj=>(d j hj).below hS b hw⟩
def gy(x:Option (Nat×Mod)):Option Addr:=x.map λy=>⟨y.1,0,none⟩
def kB(m:Nat)(S:Nat->Prop)(lo:Nat)(w:World)(x:Option (Nat×Mod)):Prop:=∀y,x=some y->kA m S lo w y.1 y.2/\y.2.aR.length<=100000/\∀f∈y.2.aR,f.ay.length<=100000
def o9(x:Option Mod)(ag:List UInt8):Option iL:=x.bind λy=>jn true ag y.aR
def sQ(w:World)(x:Option (Nat×Mod))(ag:List UInt8):Option Addr:=x.bind λy=>sP (rowOf w y.1) (eE true ag 0 (eZ y.2))
theorem kX(w:World)(x:Option (Nat×Mod))(h:kB m S w.heap.size w x)(ag:List UInt8):
  Calls prog 173 #[.pointer (gy x),.string ⟨ag.toArray⟩] w λe w'=>e=.returned (.pointer (sQ w x ag))/\w'=w:=by
 rcases x with _|y
 ·unfold gy sQ
  simp only [Option.map_none,Option.bind_none]
  go_enter func173,ntmps173
  go_wp2;go_ret;exact⟨rfl,rfl⟩
 obtain⟨h1,h2,h3⟩:=h y rfl;have HN:=aa (h1.aZ h2);unfold gy sQ;simp only [Option.map_some,Option.bind_some];clear h h1 h2 h3
 go_enter func173,ntmps173
 go_wp2_with fail
 refine(CP w y.1 _ _ HN.o ag).mono ?_;rintro e w ⟨rfl,rfl⟩;go_wp2;go_ret;exact⟨rfl,rfl⟩
theorem Hl(h:kB m S w.heap.size w x)(ag:List UInt8):
  (sQ w x ag=none/\o9 (x.map Prod.snd) ag=none)\/∃f g o,sQ w x ag=some ⟨g,o,none⟩/\o9 (x.map Prod.snd) ag=some f/\g<w.heap.size/\lx m S w.heap.size w g o f/\f.ay.length<=100000:=by
 rcases x with _|y
 ·exact Or.inl ⟨rfl,rfl⟩
 obtain⟨h1,h2,h3⟩:=h y rfl
 rcases qh true ag y.2.aR 0 with⟨a,b⟩|⟨j,f,a,b,c⟩
 ·exact Or.inl ⟨by simp [sQ,eZ,a,sP],by simpa [o9]using b⟩
 obtain⟨hj,rfl⟩:=List.getElem?_eq_some_iff.1 c;obtain⟨fo,fc,hc,hr⟩:=h1.aR;obtain⟨g,rfl,g2,g3,g4⟩:=hr (by omega)
 have e:rowOf w y.1=g:=by simp [rowOf,hc]
 refine Or.inr ⟨_,g,j*10,by simp [sQ,eZ,a,sP,e],by simpa [o9]using b,g2,g4 j hj,h3 _ (List.getElem_mem hj)⟩
def fx(x:Option Mod)(ag:List UInt8):List UInt8:=
 if x.isSome=true/\ag= []then [105,110,116,101,114,102,97,99,101]else match o9 x ag with
  |some f=>ja (f.ay.map λp=>p.eF) f.result
  |none=> []
theorem E8(w:World)(x:Option (Nat×Mod))(h:kB m S w.heap.size w x)(ag:List UInt8):
  Calls prog 112 #[.pointer (gy x),.string ⟨ag.toArray⟩] w λe w'=>e=.returned (.string ⟨(fx (x.map Prod.snd) ag).toArray⟩)/\Below w.heap.size w w':=by
 have HM:=aa h;have hE:=Hl h ag;clear h
 rcases x with _|y
 ·have HV:=aa (show fx (Option.map Prod.snd (none:Option (Nat×Mod))) ag= [] by simp [fx,o9])
  have HP:=aa (show sQ w none ag=none from rfl);have RL:=aa (show gy none=none from rfl);rw [RL.o]
  go_enter func112,ntmps112
  go_wp2_with fail
  refine(kX w none HM.o ag).mono ?_;rintro e w ⟨rfl,rfl⟩;rw [HP.o];go_wp2;go_ret;exact⟨rZ (by rw [HV.o]),Below.refl _ _⟩
 have RL:=aa (show gy (some y)=some ⟨y.1,0,none⟩from rfl);rw [RL.o]
 rcases hn:(ag== [])with _|_
 ·have hne:¬ag= []:=by simpa using hn
  rcases hE with⟨h1,h2⟩|⟨f,g,o,h1,h2,h3,h4,h5⟩
  ·have HV:=aa (show fx (Option.map Prod.snd (some y)) ag= [] by unfold fx;rw [if_neg (λh=>hne h.2),h2])
   have HP:=aa h1;clear h1 h2
   go_enter func112,ntmps112
   go_wp2_with fail
   refine(kX w (some y) HM.o ag).mono ?_;rintro e w ⟨rfl,rfl⟩;rw [HP.o];go_wp2;go_ret;exact⟨rZ (by rw [HV.o]),Below.refl _ _⟩
  ·have HV:=aa (show fx (Option.map Prod.snd (some y)) ag=ja (f.ay.map λp=>p.eF) f.result by unfold fx;rw [if_neg (λh=>hne h.2),h2])
   have HP:=aa h1;have HF:=aa h4;clear h1 h2 h4
   go_enter func112,ntmps112
   go_wp2_with fail
   refine(kX w (some y) HM.o ag).mono ?_;rintro e w ⟨rfl,rfl⟩;rw [HP.o]
   go_wp2_with fail
   refine(tk w g o f HF.o h3 h5).mono ?_;rintro e w2 ⟨rfl,hb⟩;have HB:=aa hb;clear hb;go_wp2;go_ret;exact⟨rZ (by rw [HV.o]),HB.o⟩
 have heq:ag= []:=by simpa using hn
 have HV:=aa (show fx (Option.map Prod.snd (some y)) ag= [105,110,116,101,114,102,97,99,101] by simp [fx,heq]);clear hE hn;subst heq
 go_enter func112,ntmps112
 go_wp2;go_ret;exact⟨rZ (by rw [HV.o]),Below.refl _ _⟩
structure nY (m:Nat) (S:Nat->Prop) (lo:Nat) (w:World) (V:VK) (md:Mod) (eN:List (Option (Nat×Mod))):Prop where
 pts:V.pts=eN.map gy
 len:eN.length=md.aq.length
 ku:eN.length<=1000
 me:kA m S lo w V.mb md
 my:md.aR.length<=100000/\∀f∈md.aR,f.ay.length<=100000
 them:∀x∈eN,kB m S lo w x
 hS:∀k,S k->k<lo
theorem kB.below(h:kB m S B w x)(hS:∀k,S k->k<B)(hw:Below B w w'):kB m S B w' x:=
 λy hy=>⟨(h y hy).1.below hS hw,(h y hy).2⟩
theorem kB.mono(h:kB m S B w x)(hB:B<=B'):kB m S B' w x:=
 λy hy=>⟨(h y hy).1.mono hB,(h y hy).2⟩
theorem nY.below{V:VK}{eN:List (Option (Nat×Mod))}(h:nY m S lo w V md eN)(hw:Below lo w w'):nY m S lo w' V md eN:=
 ⟨h.pts,h.len,h.ku,h.me.below h.hS hw,h.my,λx hx=>(h.them x hx).below h.hS hw,h.hS⟩
def mq(ag:List UInt8):List (lu×Option Mod)->List Us
 | []=> []
 |x::r=>⟨x.1.ag,ag,fx x.2 ag⟩::(match o9 x.2 ag with|some _=> []|none=>mq ag r)
theorem Oh(ag:List UInt8)(l:List (lu×Option Mod)):(mq ag l).length<=l.length:=by
 induction l with
 |nil=>exact Nat.le_refl _
 |cons x r ih=>
  unfold mq
  split
  ·simp
  ·simp;exact ih
def iq(w:World)(ag:List UInt8):List (lu×Option (Nat×Mod))->List UInt8×Option Addr
 | []=>([],none)
 |x::r=>match sQ w x.2 ag with
  |some a=>(x.1.ag,some a)
  |none=>iq w ag r
def oA(l:List (lu×Option (Nat×Mod))):List (lu×Option Mod):=l.map λx=>(x.1,x.2.map Prod.snd)
theorem Jp(w:World)(V:VK)(lk:List Us)(uv:Value)(hv:Vw lo V lk uv w)(tI:lo<=w.heap.size)(md:Mod)(eN:List (Option (Nat×Mod)))(hT:nY m S lo w V md eN)(i:Nat)(hi:i<eN.length)(Dz:i<md.aq.length)(ag:List UInt8):
  Calls prog 118 #[.pointer (some ⟨V.b,0,none⟩),.int .i64 i,.string ⟨ag.toArray⟩] w λe w'=>
   e=.returned (.agg #[.string ⟨md.aq[i].ag.toArray⟩,.string ⟨ag.toArray⟩,.string ⟨(fx (eN[i].map Prod.snd) ag).toArray⟩])/\Below w.heap.size w w':=by
 obtain⟨jo,jc,n0,Zv⟩:=hT.me.nN;obtain⟨jb,rfl,hjb,hjc,hname⟩:=Zv (by omega);have d1:=(hname i Dz).1;obtain⟨io,ic,xH,Yb⟩:=hv.pts
 have hpl:V.pts.length=eN.length:=by rw [hT.pts];simp
 obtain⟨ib,rfl,hib,ab4,hcell⟩:=Yb (by omega);have d2:=hcell i (by omega);rw [show V.pts[i]'(by omega)=gy eN[i] by simp [hT.pts]]at d2;obtain⟨c0,c1,c2,c3⟩:=hv.field;rw [xH,hpl]at c2;have M4:=hv.lt;have gO:=hT.me.lt;have CQ:=hT.ku;have HM:=aa ((hT.them eN[i] (List.getElem_mem hi)).mono tI)
 have wj:jb<w.heap.size:=by omega
 have VC:V.mb<w.heap.size:=by omega
 have rU:=hT.len;have HMa:=aa (show kB m S (w.alloc (.cells #[.string ⟨#[]⟩,.string ⟨#[]⟩,.string ⟨#[]⟩] 185)).heap.size (w.alloc (.cells #[.string ⟨#[]⟩,.string ⟨#[]⟩,.string ⟨#[]⟩] 185)) eN[i]from((HM.o.below (λk hk=>by have:=hT.hS k hk;omega) ((Below.refl _ _).alloc (Nat.le_refl _) _)).mono (by simp)));have Yc:=aa (show kB m S (w.alloc (.cells #[.string ⟨#[]⟩,.string ⟨#[]⟩,.string ⟨#[]⟩] 185)).drew.heap.size (w.alloc (.cells #[.string ⟨#[]⟩,.string ⟨#[]⟩,.string ⟨#[]⟩] 185)).drew eN[i]from((HM.o.below (λk hk=>by have:=hT.hS k hk;omega) (((Below.refl _ _).alloc (Nat.le_refl _) _).drew)).mono (by simp)));clear hT hv Zv hname Yb hcell xH c0 c3;generalize hx:eN[i]=x at*;generalize hn:md.aq[i]=nm at*;clear hx hn
 go_enter func118,ntmps118
 go_wp2_with fail
 go_region_with (go_at_call 112;go_must (refine(E8 (m:=m) (S:=S) _ x ?_ ag).mono ?_;exact Yc.o;rintro e w3 ⟨rfl,hb3⟩;have hq:Below w.heap.size w w3:=(((Below.refl _ _).alloc (Nat.le_refl _) _).drew).trans (hb3.mono (by simp));have B0:w3.heap[w.heap.size]?=some (.cells #[.string ⟨#[]⟩,.string ⟨#[]⟩,.string ⟨#[]⟩] 185 (0,0)):=(hb3.block _ (by simp)).trans (tH (aF w _));have k0:=ae B0 0;have k1:=ae B0 1;have k2:=ae B0 2;have kf:=aj B0;have kl:=af B0;simp at k0 k1 k2;have m1:=(aC hq M4 1).trans c1;have m2:=(aC hq VC 0).trans n0;have m3:=(aC hq wj (i*2)).trans d1;have m4:V.b<w3.heap.size:=(by omega);have m5:V.mb<w3.heap.size:=(by omega);have m6:jb<w3.heap.size:=(by omega);have HQ:=aa hq;clear hb3 hq B0))
 all_goals
  (try go_wp2_with fail)
  refine bodyPost_ret (v:=.agg #[.string ⟨nm.ag.toArray⟩,.string ⟨ag.toArray⟩,.string ⟨(fx (x.map Prod.snd) ag).toArray⟩]) (by simp [results,results118,go_sem,k0,k1,k2,kl]) rfl ⟨rfl,?_⟩;exact((HQ.o.setCell (p:=⟨w.heap.size,0,none⟩) (Nat.le_refl _) _).setCell (p:=⟨w.heap.size,1,none⟩) (Nat.le_refl _) _).setCell (p:=⟨w.heap.size,2,none⟩) (Nat.le_refl _) _
theorem Hm{a b:List UInt8}{x y:Option Addr}(h:a=b)(k:x=y):Ending.returned (.tuple #[.string ⟨a.toArray⟩,.pointer x])=Ending.returned (.tuple #[.string ⟨b.toArray⟩,.pointer y]):=by rw [h,k]
theorem uW:(prog.info? 185).map (λi=>(i.zero,i.size,i.bytes))=some (some (.agg #[.string ⟨#[]⟩,.string ⟨#[]⟩,.string ⟨#[]⟩]),3,48):=by kernel_rfl
theorem eU(w:World)(a b c:Value)(t:TypeId):∀j u,[a,b,c][j]?=some u->(w.alloc (.cells #[a,b,c] t)).cell? ((⟨w.heap.size,0,none⟩:Addr).add j)=some u:=by
 intro j u hj
 match j,hj with
 |0,hj=>simp at hj;subst hj;simp [Addr.add]
 |1,hj=>simp at hj;subst hj;simp [Addr.add]
 |2,hj=>simp at hj;subst hj;simp [Addr.add]
theorem zk(h:kB m S lo w x)(hb:Below lo w w')(ag:List UInt8):sQ w' x ag=sQ w x ag:=by
 rcases x with _|y
 ·rfl
 have:=(h y rfl).1.lt;show sP (rowOf w' y.1) _=sP (rowOf w y.1) _
 have e:rowOf w' y.1=rowOf w y.1:=by unfold rowOf;rw [aC hb this 1]
 rw [e]
def qx(w:World)(V:VK)(md:Mod)(eN:List (Option (Nat×Mod)))(ag:List UInt8):List UInt8×Option Addr:=
 match sP (rowOf w V.mb) (eE false ag 0 (eZ md))with
 |some a=>(V.nm,some a)
 |none=>iq w ag (md.aq.zip eN)
def Hn(md:Mod)(eN:List (Option (Nat×Mod)))(ag:List UInt8):List Us:=
 match eE false ag 0 (eZ md)with
 |some _=> []
 |none=>mq ag (oA (md.aq.zip eN))
theorem E9(w:World)(V:VK)(lk:List Us)(uv:Value)(hv:Vw lo V lk uv w)(md:Mod)(eN:List (Option (Nat×Mod)))(hT:nY m S lo w V md eN)(ag:List UInt8)(hlk:lk.length<=8000000000):
  Calls prog 261 #[.pointer (some ⟨V.b,0,none⟩),.string ⟨ag.toArray⟩] w λe w'=>
   e=.returned (.tuple #[.string ⟨(qx w V md eN ag).1.toArray⟩,.pointer (qx w V md eN ag).2])/\∃qA,fQ V uv qA w w'/\Vw lo V (lk++Hn md eN ag) qA w':=by
 have tI:lo<=w.heap.size:=by have:=hv.low;have:=hv.lt;omega
 have HV:=aa hv;have HT:=aa hT;have HO:=aa ((hT.me.mono tI).aZ hT.my.1);obtain⟨c0,c1,c2,c3⟩:=hv.field;have M4:=hv.lt;have gO:=hT.me.lt
 have VC:V.mb<w.heap.size:=by omega
 rcases hf:eE false ag 0 (eZ md)with _|j
 ·have qi:=aa (show qx w V md eN ag=iq w ag (md.aq.zip eN) by simp [qx,hf,sP])
  have Oi:=aa (show Hn md eN ag=mq ag (oA (md.aq.zip eN)) by simp [Hn,hf]);have HP:=aa (show sP (rowOf w V.mb) (eE false ag 0 (eZ md))=none by rw [hf];rfl);obtain⟨io,ic,xH,_⟩:=hv.pts
  have hpl:V.pts.length=eN.length:=by rw [hT.pts];simp
  rw [xH,hpl]at c2;have CQ:=hT.ku;have Dz:=hT.len;obtain⟨L,hL⟩:∃L,md.aq.zip eN=L:=⟨_,rfl⟩;have HL:=aa hL
  have V4:L.length=eN.length:=by rw [<-hL];simp;omega
  rw [hL]at qi Oi;obtain⟨i0,hi,hz0,hz1,hz2⟩:=info_parts uW;clear hf hv hT xH c3 hL
  go_enter func261,ntmps261
  go_wp2_with fail
  refine(Jo w V.mb _ _ HO.o ag).mono ?_;rintro e w ⟨rfl,rfl⟩;rw [HP.o];go_wp2
  go_loopg [27] eN.length (λn i wr=>∃(j:Nat) (Ao:List Us) (qA:Value),n+j=eN.length/\i=.int .i64 j/\Hy (iq w ag L=iq w ag (L.drop j))/\Hy (lk++mq ag (oA L)=Ao++mq ag (oA (L.drop j)))/\Hy (Vw lo V Ao qA wr)/\Hy (fQ V uv qA w wr)/\Hy (Ao.length=lk.length+j))
  case atStart=>exact⟨0,lk,uv,by omega,rfl,rfl,rfl,HV.o,fQ.refl,by show lk.length=lk.length+0;omega⟩
  case round=>
   obtain⟨j,Ao,qA,hj,rfl,TA,HUj,wF,HMr,KQ⟩:=hrel
   have rU:Ao.length<=8000100000:=by have:=KQ.o;omega
   have hbl:=HMr.o.dB HV.o;have D5:=aa hbl
   have hlr:lo<=wr.heap.size:=by have:=hbl.size;omega
   obtain⟨d0,d1,d2,d3⟩:=wF.o.field;have hvr:=wF.o.lt
   have hmr:V.mb<wr.heap.size:=by omega
   by_cases hlt:j<eN.length
   ·have Gj:j<md.aq.length:=by omega
    have B1:=aa (HT.o.below hbl);have jH:=aa (show L.drop j=(md.aq[j],eN[j])::L.drop (j+1) by rw [List.drop_eq_getElem_cons (by omega)];congr 1;have:=HL.o;subst this;simp);have KR:=aa (HT.o.them eN[j] (List.getElem_mem hlt));obtain⟨jo,jc,n0,Zv⟩:=B1.o.me.nN;obtain⟨jb,rfl,hjb,hjc,hname⟩:=Zv (by omega);have e1:=(hname j Gj).1;obtain⟨io2,ic2,Zw,Yb⟩:=wF.o.pts;obtain⟨ib,rfl,hib,ab4,hcell⟩:=Yb (by omega);have e2:=hcell j (by omega);rw [show V.pts[j]'(by omega)=gy eN[j] by simp [HT.o.pts]]at e2;rw [Zw,hpl]at d2;obtain⟨so,sc,RX⟩:=ak wF.o.Rn;subst RX
    have qV:∀u∈ [Value.string ⟨md.aq[j].ag.toArray⟩,Value.string ⟨ag.toArray⟩,Value.string ⟨(fx (eN[j].map Prod.snd) ag).toArray⟩],u.oneCell'=true:=by
     intro u hu
     rcases List.mem_cons.1 hu with rfl|hu
     ·rfl
     ·rcases List.mem_cons.1 hu with rfl|hu
      ·rfl
      ·rcases List.mem_cons.1 hu with rfl|hu
       ·rfl
       ·cases hu
    have kp:=aa qV
    have b1:Ao.length+1<=maxLen:=by unfold maxLen;omega
    have b2:(Ao.length+1)*48<=140737488355328:=by omega
    have adg:jb<wr.heap.size:=by omega
    have VD:=aa (λ(wq:World) (hq:Below wr.heap.size wr wq)=>Jp (m:=m) (S:=S) wq V Ao (.slice so Ao.length sc) (wF.o.below hq) (by have:=hq.size;omega) md eN (B1.o.below (hq.mono hlr)) j hlt Gj ag);have HN0:=aa n0;have Gl:=aa e1;have Mu:=aa e2;clear Zv hname Yb hcell Zw hbl qV c0 c1 c2;generalize hx:eN[j]=x at*;generalize hn:md.aq[j]=nm at*;have HX:=aa hx;clear hx hn
    go_wp2_with fail
    go_cut [7]from 28 to 66 (λs7 wx=>s7=.int .i64 j/\∃TC,Hy (Vw lo V (Ao++ [⟨nm.ag,ag,fx (x.map Prod.snd) ag⟩]) TC wx)/\Hy (fQ V (.slice so Ao.length sc) TC wr wx))
    case first=>
     go_region_law (first
      |(refine fp rfl 118 #[.tmp 35,.tmp 36,.tmp 37] #[158,3,9] rfl Tryz.call118 #[.pointer (some ⟨V.b,0,none⟩),.int .i64 j,.string ⟨ag.toArray⟩] ?_ (VD.o wr.drew ((Below.refl _ _).drew)) ?_;(simp [Act.eval,Act.put]);rintro e w3 ⟨rfl,hb3⟩;refine⟨_,rfl,?_⟩;have dy:=aa (qT hb3);have hv3:=wF.o.below dy.o;have Yd:=aa hv3;have f3:=hv3.field.2.2.2;have iY:=hv3.lt;have hs3:lo<=w3.heap.size:=(by have:=dy.o.size;omega);have g3:=aj hv3.blk;clear hb3 hv3)
      |(refine cv rfl (.tmp 34) (.tmp 39) 152 rfl lo 185 i0 (.agg #[.string ⟨#[]⟩,.string ⟨#[]⟩,.string ⟨#[]⟩]) 3 48 underlying152 hi hz0 hz1 hz2 rfl (by decide) (.slice so Ao.length sc) Ao.length (bo Ao) ?_ ?_ ⟨w3.heap.size,0,none⟩ 1 1 [.string ⟨nm.ag.toArray⟩,.string ⟨ag.toArray⟩,.string ⟨(fx (x.map Prod.snd) ag).toArray⟩] ?_ rfl ?_ kp.o b1 b2 ?_ ?_;(simp [Act.eval,Act.put]);(exact(Yd.o.alloc _).Rn);(simp [Act.eval,Act.put]);(exact(eU w3 _ _ _ _));(simp;omega);intro v' w4 hown aB aJ;obtain⟨vo,vc,rfl⟩:=ak hown;have HG:=aa (aA aB);have ot:=aa hown;have Bh:=aa aJ;have fO:=(HG.o.block V.b iY (λe=>Yd.o.n2 e.symm)).trans Yd.o.blk;have k9:=ae fO 3;have kf:=aj fO;have kl:=af fO;simp at k9;clear hown aB aJ fO))
     all_goals
      (try go_wp2_with fail)
      have xJ:=aa (Yd.o.put HG.o (.slice vo (Ao.length+1) vc) (Ao++ [⟨nm.ag,ag,fx (x.map Prod.snd) ag⟩]) (by rw [sZ,List.length_append];exact ot.o) (λk e=>(Bh.o k e).imp id (λh=>by simp at h;omega)))
      go_meet
      exact⟨rfl,_,xJ.o.2,(fQ.aW dy.o).trans xJ.o.1⟩
    case rest=>
     obtain⟨rfl,TC,Jq,Em⟩:=hcut;have hb2:Below lo wr wc:=Em.o.dB wF.o
     have hlx:lo<=wc.heap.size:=by have:=hb2.size;omega
     have mG:=aa (B1.o.below hb2);have VE:=aa ((KR.o.below HT.o.hS (D5.o.trans hb2)).mono hlx);obtain⟨_,x1,x2,_⟩:=Jq.o.field;have VF:=Jq.o.lt;obtain⟨io3,ic3,Zx,Zy⟩:=Jq.o.pts;obtain⟨ib3,rfl,adh,acR,Oj⟩:=Zy (by omega);have e3:=Oj j (by omega);rw [show V.pts[j]'(by omega)=gy x by rw [<-HX.o];simp [HT.o.pts]]at e3;rw [Zx,hpl]at x2;have n3:=(aC hb2 gO 0).trans n0;have m3:=(aC hb2 hjb (j*2)).trans e1
     have hmx:V.mb<wc.heap.size:=by omega
     have hjx:jb<wc.heap.size:=by omega
     have Hf:=aa (zk KR.o (D5.o.trans hb2) ag);have HMw:=aa (HMr.o.trans Em.o);have ab5:=aa (show(Ao++ [⟨nm.ag,ag,fx (x.map Prod.snd) ag⟩]:List Us).length=lk.length+(j+1) by have:=KQ.o;simp;omega);clear Oj Zy Zx hb2 d0 d1 d2 d3 e1 e2 n0
     go_wp2_with fail
     refine(kX wc x VE.o ag).mono ?_;rintro e wc ⟨rfl,rfl⟩;rw [Hf.o]
     rcases hep:sQ w x ag with _|ap
     ·have oK:=aa (show iq w ag L=iq w ag (L.drop (j+1)) by rw [TA.o,jH.o];simp only [iq,hep])
      have VG:o9 (x.map Prod.snd) ag=none:=by
       rcases Hl (KR.o.mono tI) ag with⟨_,h2⟩|⟨f,g,o,h1,_⟩
       ·exact h2
       ·rw [hep]at h1;cases h1
      have Jd:=aa (show lk++mq ag (oA L)=(Ao++ [⟨nm.ag,ag,fx (x.map Prod.snd) ag⟩])++mq ag (oA (L.drop (j+1))) by
       rw [HUj.o,jH.o]
       simp only [oA,List.map_cons,mq,VG,List.append_assoc,List.cons_append,List.nil_append])
      clear VG;go_wp2
      go_roundg (gk-1)
      case measure=>omega
      case rel=>exact⟨j+1,_,TC,by omega,by first|rfl|go_num,oK.o,Jd.o,Jq.o,HMw.o,ab5.o⟩
     ·have oK:=aa (show iq w ag L=(nm.ag,some ap) by rw [TA.o,jH.o];simp only [iq,hep])
      have VG:∃f,o9 (x.map Prod.snd) ag=some f:=by
       rcases Hl (KR.o.mono tI) ag with⟨h1,_⟩|⟨f,g,o,_,h2,_⟩
       ·rw [hep]at h1;cases h1
       ·exact⟨f,h2⟩
      obtain⟨f0,VG⟩:=VG
      have Jd:=aa (show lk++mq ag (oA L)=Ao++ [⟨nm.ag,ag,fx (x.map Prod.snd) ag⟩] by
       rw [HUj.o,jH.o]
       simp only [oA,List.map_cons,mq,VG])
      clear VG;go_wp2
      go_ret2
      exact⟨Hm (by rw [qi.o,oK.o]) (by rw [qi.o,oK.o]),TC,HMw.o,by rw [Oi.o,Jd.o];exact Jq.o⟩
   ·have jU:j=eN.length:=by omega
    have oK:=aa (show iq w ag L=([],none) by rw [TA.o,List.drop_of_length_le (by omega)];rfl);have Jd:=aa (show lk++mq ag (oA L)=Ao by rw [HUj.o,List.drop_of_length_le (by omega)];simp [oA,mq]);subst jU;go_wp2
    go_ret2
    exact⟨Hm (by rw [qi.o,oK.o]) (by rw [qi.o,oK.o]),qA,HMr.o,by rw [Oi.o,Jd.o];exact wF.o⟩
 have qi:=aa (show qx w V md eN ag=(V.nm,some ⟨rowOf w V.mb,j*10,none⟩) by simp [qx,hf,sP]);have Oi:=aa (show Hn md eN ag= [] by simp [Hn,hf]);have HP:=aa (show sP (rowOf w V.mb) (eE false ag 0 (eZ md))=some ⟨rowOf w V.mb,j*10,none⟩ by rw [hf];rfl);clear hf hv hT c2 c3
 go_enter func261,ntmps261
 go_wp2_with fail
 refine(Jo w V.mb _ _ HO.o ag).mono ?_;rintro e w ⟨rfl,rfl⟩;rw [HP.o];go_wp2
 go_ret2
 exact⟨Hm (by rw [qi.o]) (by rw [qi.o]),uv,fQ.refl,by rw [Oi.o,List.append_nil];exact HV.o⟩
end Go.Proofs.YtpmmjkiclngpmaaGreatDoor
