/- YtpmmjkiclngpmaaGreatDoorB29 -/
import Derived.Test.YtpmmjkiclngpmaaGreatDoorB28
import Derived.Test.YtpmmjkiclngpmaaGreatDoorB25
set_option maxRecDepth 100000
set_option linter.unusedSimpArgs false
set_option linter.unusedVariables false
set_option maxHeartbeats 12800000
namespace Go.Proofs.YtpmmjkiclngpmaaGreatDoor
open Tryz
open Go.RowKit
variable{w w0:World}{B m:Nat}{S:Nat->Prop}{md:Mod}{eN:List (Option (Nat×Mod))}{V:VK}
def tV(md:Mod)(eN:List (Option Mod))(ag:List UInt8):List Us:=match jn false ag md.aR with|some _=> []|none=>mq ag (md.aq.zip eN)
def qy(md:Mod)(eN:List (Option Mod)):gS:=⟨rk md eN,λn=>(tV md eN n).take 1000,λn=>by rw [List.length_take];omega⟩
def EA(ag:List UInt8):List (lu×Option Mod)->List UInt8
 | []=> []
 |x::r=>match o9 x.2 ag with
  |some _=>x.1.ag
  |none=>EA ag r
def VH(vn:List UInt8)(md:Mod)(eN:List (Option Mod))(ag:List UInt8):List UInt8×List UInt8:=
 ((match jn false ag md.aR with|some _=>vn|none=>EA ag (md.aq.zip eN)),ag)
def zm(vn:List UInt8)(md:Mod)(eN:List (Option Mod)):wY:=⟨VH vn md eN,λn=>(tV md eN n).take 1000,λn=>by rw [List.length_take];omega⟩
def tW(md:Mod)(eN:List (Option Mod))(ag:List UInt8):Prop:=(rk md eN ag).isSome=true
theorem KT(ag:List UInt8)(x:Option Mod)(r:List (Option Mod)):j9 ag (x::r)=match o9 x ag with|some f=>some f|none=>j9 ag r:=by
 cases x with
 |none=>rfl
 |some md=>rfl
theorem zn(l:List lu)(eN:List (Option (Nat×Mod))):oA (l.zip eN)=l.zip (eN.map λx=>x.map Prod.snd):=by
 unfold oA;rw [List.zip_map_right];rfl
theorem B2(md:Mod)(eN:List (Option (Nat×Mod)))(ag:List UInt8):Hn md eN ag=tV md (eN.map λx=>x.map Prod.snd) ag:=by
 unfold Hn tV
 rcases qh false ag md.aR 0 with⟨a,b⟩|⟨j,f,a,b,c⟩
 ·simp only [eZ,a,b]
  rw [zn]
 simp only [eZ,a,b]
theorem zt(md:Mod)(eN:List (Option Mod))(h:eN.length<=1000)(ag:List UInt8):(tV md eN ag).take 1000=tV md eN ag:=by
 refine List.take_of_length_le ?_;unfold tV
 split
 ·simp
 have:=Oh ag (md.aq.zip eN);rw [List.length_zip]at this;omega
theorem lx.sig{g o:Nat}{f:iL}(h:lx m S B w g o f):Ev B w g o (mW f).1 (mW f).2:=by
 obtain⟨pv,bv,b0,b1,b2,b3,b4,b5,b6,b7,b8,b9,⟨po,pc,By,Bl⟩,cO⟩:=h;refine⟨b4,po,pc,by rw [b3,By];simp [mW],λjR=> ?_⟩;obtain⟨gb,rfl,hgb,hl,hcell⟩:=Bl (by simpa [mW]using jR);refine⟨gb,rfl,hgb,by simpa [mW]using hl,λi hi=> ?_⟩
 have uV:i<f.ay.length:=by simpa [mW]using hi
 simp only [mW,List.getElem_map];exact(hcell i uV).2.2
theorem kA.aat{mb:Nat}(h:kA m S B w mb md)(j:Nat)(hj:j<md.aR.length):rowOf w mb<B/\lx m S B w (rowOf w mb) (j*10) md.aR[j]:=by
 obtain⟨fo,fc,hc,hr⟩:=h.aR;obtain⟨g,rfl,h2,h3,h4⟩:=hr (by omega)
 have e:rowOf w mb=g:=by simp [rowOf,hc]
 rw [e];exact⟨h2,h4 j hj⟩
theorem RY{x:Option (Nat×Mod)}(h:kB m S B w x)(ag:List UInt8):
  (sQ w x ag=none/\o9 (x.map Prod.snd) ag=none)\/∃f g o,sQ w x ag=some ⟨g,o,none⟩/\o9 (x.map Prod.snd) ag=some f/\g<B/\lx m S B w g o f/\f.ay.length<=100000:=by
 rcases x with _|y
 ·exact Or.inl ⟨rfl,rfl⟩
 obtain⟨h1,h2,h3⟩:=h y rfl
 rcases qh true ag y.2.aR 0 with⟨a,b⟩|⟨j,f,a,b,c⟩
 ·exact Or.inl ⟨by simp [sQ,eZ,a,sP],by simpa [o9]using b⟩
 obtain⟨hj,rfl⟩:=List.getElem?_eq_some_iff.1 c;obtain⟨q1,q2⟩:=h1.aat j hj;exact Or.inr ⟨_,rowOf w y.1,j*10,by simp [sQ,eZ,a,sP],by simpa [o9]using b,q1,q2,h3 _ (List.getElem_mem hj)⟩
theorem KU(ag:List UInt8):∀(l:List (lu×Option (Nat×Mod))),(∀x∈l,kB m S B w x.2)->
  (iq w ag l=([],none)/\j9 ag ((oA l).map Prod.snd)=none)\/∃f g o,iq w ag l=(EA ag (oA l),some ⟨g,o,none⟩)/\j9 ag ((oA l).map Prod.snd)=some f/\g<B/\lx m S B w g o f/\f.ay.length<=100000:=by
 intro l
 induction l with
 |nil=>intro _;exact Or.inl ⟨rfl,rfl⟩
 |cons x r ih=>
  intro h;have e1:(oA (x::r)).map Prod.snd=x.2.map Prod.snd::(oA r).map Prod.snd:=rfl;have e2:oA (x::r)=(x.1,x.2.map Prod.snd)::oA r:=rfl;rw [e1,e2,KT];unfold iq EA
  rcases RY (h x (by simp)) ag with⟨a,b⟩|⟨f,g,o,a,b,c⟩
  ·simp only [a,b]
   exact ih (λz hz=>h z (by simp [hz]))
  ·simp only [a,b]
   exact Or.inr ⟨f,g,o,rfl,rfl,c⟩
theorem CR{lo:Nat}{w':World}(hb:Below lo w w')(ag:List UInt8):∀(l:List (lu×Option (Nat×Mod))),(∀x∈l,kB m S lo w x.2)->iq w' ag l=iq w ag l:=by
 intro l
 induction l with
 |nil=>intro _;rfl
 |cons x r ih=>
  intro h;unfold iq;rw [zk (h x (by simp)) hb ag,ih (λz hz=>h z (by simp [hz]))]
theorem nY.qx(h:nY m S B w0 V md eN)(hb:Below B w0 w)(ag:List UInt8):
  (rk md (eN.map λx=>x.map Prod.snd) ag=none/\qx w V md eN ag=([],none))\/
  ∃f g o,rk md (eN.map λx=>x.map Prod.snd) ag=some (mW f)/\qx w V md eN ag=((VH V.nm md (eN.map λx=>x.map Prod.snd) ag).1,some ⟨g,o,none⟩)/\g<B/\lx m S B w0 g o f/\f.ay.length<=100000:=by
 have hz:((oA (md.aq.zip eN)).map Prod.snd)=eN.map λx=>x.map Prod.snd:=by
  rw [zn,List.map_snd_zip (by rw [List.length_map,h.len];exact Nat.le_refl _)]
 have hm:∀x∈md.aq.zip eN,kB m S B w0 x.2:=λx hx=>h.them _ (List.of_mem_zip hx).2
 have hrow:rowOf w V.mb=rowOf w0 V.mb:=by unfold rowOf;rw [aC hb h.me.lt 1]
 unfold Go.Proofs.YtpmmjkiclngpmaaGreatDoor.qx rk VH
 rcases qh false ag md.aR 0 with⟨a,b⟩|⟨j,f,a,b,c⟩
 ·simp only [eZ,a,b,sP,Option.map_none]
  rw [CR hb ag _ hm];have:=KU ag _ hm;rw [hz,zn]at this
  rcases this with⟨r1,r2⟩|⟨f,g,o,r1,r2,r3⟩
  ·exact Or.inl ⟨by rw [r2];rfl,r1⟩
  ·exact Or.inr ⟨f,g,o,by rw [r2];rfl,r1,r3⟩
 simp only [eZ,a,b,sP,Option.map_some];obtain⟨hj,rfl⟩:=List.getElem?_eq_some_iff.1 c;obtain⟨q1,q2⟩:=h.me.aat j hj;exact Or.inr ⟨_,rowOf w0 V.mb,j*10,rfl,by rw [hrow,Nat.zero_add],q1,q2,h.my.2 _ (List.getElem_mem hj)⟩
theorem nY.Zz(h:nY m S B w0 V md eN):Ew B w0 V (qy md (eN.map λx=>x.map Prod.snd)):=by
 intro ag lk uv w hb hv hl;refine(E9 w V lk uv hv md eN (h.below hb) ag (by omega)).mono ?_;rintro e w' ⟨rfl,qA,h1,h2⟩;refine⟨?_,qA,h1,?_⟩
 ·rcases h.qx hb ag with⟨r1,r2⟩|⟨f,g,o,r1,r2,r3,r4,r5⟩
  ·exact Or.inl ⟨r1,_,by rw [r2]⟩
  ·refine Or.inr ⟨_,_,_,g,o,r1,by rw [r2],r3,r4.sig,?_⟩
   simpa [mW]using r5
 show Vw B V (lk++(tV md _ ag).take 1000) qA w';rw [zt md _ (by rw [List.length_map];exact h.ku),<-B2];exact h2
theorem nY.Z0(h:nY m S B w0 V md eN)(C:CK)(tb:Nat->Prop)(w1:World)(hc:C.c0=.pointer (some ⟨V.b,0,none⟩))(hV:C.V=V)(h1:Below B w0 w1):
  Bf ⟨B,tb⟩ w1 C (zm V.nm md (eN.map λx=>x.map Prod.snd)) (tW md (eN.map λx=>x.map Prod.snd)):=by
 intro ag lk uv w hk hb hv hl;have hb':Below B w0 w:=h1.trans hb.dB;rw [hc,hV]at*;refine(E9 w V lk uv hv md eN (h.below hb') ag hl).mono ?_;rintro e w' ⟨rfl,qA,q1,q2⟩;refine⟨?_,rfl,qA,q1,?_⟩
 ·rcases h.qx hb' ag with⟨r1,r2⟩|⟨f,g,o,r1,r2,r3,r4,r5⟩
  ·unfold tW at hk
   rw [r1]at hk
   cases hk
  ·exact⟨_,by rw [r2];rfl⟩
 show Vw B V (lk++(tV md _ ag).take 1000) qA w';rw [zt md _ (by rw [List.length_map];exact h.ku),<-B2];exact q2
end Go.Proofs.YtpmmjkiclngpmaaGreatDoor
