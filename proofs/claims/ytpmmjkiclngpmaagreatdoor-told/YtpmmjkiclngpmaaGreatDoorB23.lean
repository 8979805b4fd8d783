/- YtpmmjkiclngpmaaGreatDoorB23 -/
import Derived.Test.YtpmmjkiclngpmaaGreatDoorB15
set_option maxRecDepth 100000
set_option linter.unusedSimpArgs false
set_option linter.unusedVariables false
set_option maxHeartbeats 12800000
namespace Go.Proofs.YtpmmjkiclngpmaaGreatDoor
open Tryz
open Go.RowKit
variable{e:Ex}{want n m k B kb:Nat}{g:Ex->KS->Nat×KS}{l es:List Ex}{s:KS}{pv:Value}{w w1 w2 w0:World}{S:Nat->Prop}{vb:VK}
def o6(got want:Nat):Bool:=got !=want&&(got !=0&&want !=0)
def bV(g:Ex->KS->Nat×KS)(want:Nat)(e:Ex)(s:KS):KS:=if o6 (g e s).1 want then(g e s).2.tell 8 e.ai else(g e s).2
def eT(g:Ex->KS->Nat×KS)(want:Nat):List Ex->KS->KS
 | [],s=>s
 |e::r,s=>eT g want r (bV g want e s)
def iU(g:Ex->KS->Nat×KS):List Ex->List Nat->KS->KS
 |e::r,t::ts,s=>iU g r ts (bV g t e s)
 |l,_,s=>eT g 0 l s
def jW(ag:List UInt8):List (List UInt8×Nat)->Option Nat
 | []=>none
 |x::r=>if x.1=ag then some x.2 else jW ag r
def sN(e:Ex)(s:KS):Nat×KS:=match jW e.ag s.az.reverse with|some t=>(t,s)|none=>(0,s.tell 3 e.ai)
structure gS where
 sig:List UInt8->Option (List Nat×Nat)
 use:List UInt8->List Us
 le:∀n,(use n).length<=1000
variable{ar:gS}
abbrev KS.pS(s:KS)(u:List Us):KS:={s with lk:=s.lk++u}
def lZ(ar:gS)(g:Ex->KS->Nat×KS)(e:Ex)(s:KS):Nat×KS:=
 match ar.sig e.ag with
 |none=>(0,eT g 0 e.aw ((s.pS (ar.use e.ag)).tell 3 e.ai))
 |some (ps,r)=>(r,iU g e.aw ps (if e.aw.length=ps.length then s.pS (ar.use e.ag)else(s.pS (ar.use e.ag)).tell 7 e.ai))
def RF(g:Ex->KS->Nat×KS)(a b c:Ex)(s:KS):Nat×KS:=((g b (bV g 2 a s)).1,bV g (g b (bV g 2 a s)).1 c (g b (bV g 2 a s)).2)
def yX(g:Ex->KS->Nat×KS)(ag:List UInt8)(a b:Ex)(s:KS):Nat×KS:=
  ((g b {(g a s).2 with az:=(g a s).2.az++ [(ag,(g a s).1)]}).1,
   {(g b {(g a s).2 with az:=(g a s).2.az++ [(ag,(g a s).1)]}).2 with az:=(g b {(g a s).2 with az:=(g a s).2.az++ [(ag,(g a s).1)]}).2.az.take s.az.length})
def cy(ar:gS):Nat->Ex->KS->Nat×KS
 |0,_,s=>(0,s)
 |m+1,e,s=>
  if e.aL=1 then(2,s)
  else if e.aL=2 then sN e s
  else if e.aL=3 then lZ ar (cy ar m) e s
  else if e.aL=4 then(match e.aw with| [a]=>cy ar m a s|_=>(0,s))
  else if e.aL=5 then(match e.aw with| [a,b,c]=>RF (cy ar m) a b c s|_=>(0,s))
  else if e.aL=6 then(match e.aw with| [a,b]=>yX (cy ar m) e.ag a b s|_=>(0,s))
  else if e.aL=7\/e.aL=8 then(2,eT (cy ar m) 1 e.aw s)
  else if e.aL=14 then(2,eT (cy ar m) 2 e.aw s)
  else(1,eT (cy ar m) 1 e.aw s)
theorem jm(s:KS)(c p:Nat):(s.tell c p).az=s.az:=by unfold KS.tell;split<;>rfl
theorem j6{s:KS}(h:∀s,(g e s).2.az=s.az):(bV g want e s).az=s.az:=by
 unfold bV;split
 ·rw [jm,h]
 exact h s
theorem kH(h:∀x∈l,∀s,(g x s).2.az=s.az)(s:KS):(eT g want l s).az=s.az:=by
 induction l generalizing s with
 |nil=>rfl
 |cons x r ih=>
  show(eT g want r (bV g want x s)).az=_;rw [ih (λy hy=>h y (by simp [hy])),j6 (h x (by simp))]
theorem Eu(h:∀x∈l,∀s,(g x s).2.az=s.az)(ts:List Nat)(s:KS):(iU g l ts s).az=s.az:=by
 induction l generalizing ts s with
 |nil=>cases ts<;>rfl
 |cons x r ih=>
  cases ts with
  |nil=>exact kH h s
  |cons t ts=>
   show(iU g r ts (bV g t x s)).az=_;rw [ih (λy hy=>h y (by simp [hy])),j6 (h x (by simp))]
theorem j7(ar:gS)(m:Nat):∀(e:Ex) (s:KS),(cy ar m e s).2.az=s.az:=by
 induction m with
 |zero=>intro e s;rfl
 |succ m ih=>
  intro e s;unfold cy
  split
  ·rfl
  ·split
   ·unfold sN;split
    ·rfl
    ·exact jm _ _ _
   ·split
    ·unfold lZ;split
     ·show(eT _ _ _ _).az=_
      rw [kH (λx _=>ih x),jm]
     ·show(iU _ _ _ _).az=_
      rw [Eu (λx _=>ih x)]
      split
      ·rfl
      ·exact jm _ _ _
    ·split
     ·split
      ·exact ih _ _
      ·rfl
     ·split
      ·split
       ·show(bV _ _ _ _).az=_
        rw [j6 (ih _),ih,j6 (ih _)]
       ·rfl
      ·split
       ·split
        ·show(List.take _ _)=_
         rw [ih];simp only;rw [ih];simp
        ·rfl
       ·split
        ·exact kH (λx _=>ih x) s
        ·split
         ·exact kH (λx _=>ih x) s
         ·exact kH (λx _=>ih x) s
theorem i_(s:KS)(c p:Nat):(s.tell c p).lk=s.lk:=by unfold KS.tell;split<;>rfl
structure eD (s:KS) (n:Nat):Prop where
 sc:s.az.length+n<=1000000
 lk:s.lk.length+1000*n<=4000000000
theorem eD.mono(h:eD s n)(hm:m<=n):eD s m:=⟨by have:=h.sc;omega,by have:=h.lk;omega⟩
theorem eD.of{t:KS}(h:eD s (n+k))(h1:t.az=s.az)(h2:t.lk.length<=s.lk.length+1000*n):eD t k:=⟨by have:=h.sc;rw [h1];omega,by have:=h.lk;omega⟩
theorem eD.tell(h:eD s n)(c p:Nat):eD (s.tell c p) n:=⟨by rw [jm];exact h.sc,by rw [i_];exact h.lk⟩
theorem eD.pS(h:eD s (1+n))(u:List Us)(hu:u.length<=1000):eD (s.pS u) n:=⟨by have:=h.sc;simp only;omega,by have:=h.lk;simp only [List.length_append];omega⟩
theorem eD.push{s:KS}(h:eD s (1+n))(x:List UInt8×Nat):eD {s with az:=s.az++ [x]} n:=⟨by have:=h.sc;simp only [List.length_append,List.length_cons,List.length_nil];omega,by have:=h.lk;simp only;omega⟩
theorem mV{s:KS}(h:∀s,(g e s).2.lk.length<=s.lk.length+n):(bV g want e s).lk.length<=s.lk.length+n:=by
 unfold bV;split
 ·rw [i_];exact h s
 exact h s
theorem ya{sz:Ex->Nat}(h:∀x∈l,∀s,(g x s).2.lk.length<=s.lk.length+1000*sz x)(s:KS):(eT g want l s).lk.length<=s.lk.length+1000*gD sz l:=by
 induction l generalizing s with
 |nil=>exact Nat.le_add_right _ _
 |cons x r ih=>
  have h1:=ih (λy hy=>h y (by simp [hy])) (bV g want x s);have h2:(bV g want x s).lk.length<=s.lk.length+1000*sz x:=mV (h x (by simp));show(eT g want r (bV g want x s)).lk.length<=_;simp only [gD,List.foldr_cons]at*;omega
theorem NT{sz:Ex->Nat}(h:∀x∈l,∀s,(g x s).2.lk.length<=s.lk.length+1000*sz x)(ts:List Nat)(s:KS):(iU g l ts s).lk.length<=s.lk.length+1000*gD sz l:=by
 induction l generalizing ts s with
 |nil=>cases ts<;>exact Nat.le_add_right _ _
 |cons x r ih=>
  cases ts with
  |nil=>exact ya h s
  |cons t ts=>
   have h1:=ih (λy hy=>h y (by simp [hy])) ts (bV g t x s);have h2:(bV g t x s).lk.length<=s.lk.length+1000*sz x:=mV (h x (by simp));show(iU g r ts (bV g t x s)).lk.length<=_;simp only [gD,List.foldr_cons]at*;omega
theorem yY(ar:gS)(m:Nat):∀(e:Ex) (s:KS),(cy ar m e s).2.lk.length<=s.lk.length+1000*sz m e:=by
 induction m with
 |zero=>intro e s;exact Nat.le_add_right _ _
 |succ m ih=>
  intro e s;have hsz:sz (m+1) e=1+gD (sz m) e.aw:=rfl;rw [hsz]
  have hall:∀want,(eT (cy ar m) want e.aw s).lk.length<=s.lk.length+1000*gD (sz m) e.aw:=λwant=>ya (λx _=>ih x) s
  unfold cy
  split
  ·simp only;omega
  ·split
   ·unfold sN;split
    ·simp only;omega
    ·simp only [i_];omega
   ·split
    ·have hu:=ar.le e.ag
     unfold lZ;split
     ·have:=ya (g:=cy ar m) (sz:=sz m) (want:=0) (l:=e.aw) (λx _=>ih x) ((s.pS (ar.use e.ag)).tell 3 e.ai)
      simp only [i_,List.length_append]at this⊢;omega
     ·next ps r _=>
      have h2:=NT (g:=cy ar m) (sz:=sz m) (l:=e.aw) (λx _=>ih x) ps (if e.aw.length=ps.length then s.pS (ar.use e.ag)else(s.pS (ar.use e.ag)).tell 7 e.ai)
      have h3:(if e.aw.length=ps.length then s.pS (ar.use e.ag)else(s.pS (ar.use e.ag)).tell 7 e.ai).lk.length=s.lk.length+(ar.use e.ag).length:=by split<;>simp [i_]
      simp only at h2⊢;omega
    ·split
     ·split
      ·next a hp=>
       have:=ih a s;rw [hp];simp only [gD,List.foldr_cons,List.foldr_nil];omega
      ·simp only;omega
     ·split
      ·split
       ·next a b c hp=>
        rw [hp];have h1:(bV (cy ar m) 2 a s).lk.length<=s.lk.length+1000*sz m a:=mV (ih a);have h2:=ih b (bV (cy ar m) 2 a s);have h3:(bV (cy ar m) (cy ar m b (bV (cy ar m) 2 a s)).1 c (cy ar m b (bV (cy ar m) 2 a s)).2).lk.length<=(cy ar m b (bV (cy ar m) 2 a s)).2.lk.length+1000*sz m c:=mV (ih c);unfold RF;simp only [gD,List.foldr_cons,List.foldr_nil];omega
       ·simp only;omega
      ·split
       ·split
        ·next a b hp=>
         rw [hp];have h1:=ih a s;have h2:=ih b {(cy ar m a s).2 with az:=(cy ar m a s).2.az++ [(e.ag,(cy ar m a s).1)]};unfold yX;simp only [gD,List.foldr_cons,List.foldr_nil]at*;omega
        ·simp only;omega
       ·split
        ·have:=hall 1;simp only;omega
        ·split
         ·have:=hall 2;simp only;omega
         ·have:=hall 1;simp only;omega
theorem eD.ty(h:eD s (sz m e+n)):eD (cy ar m e s).2 n:=h.of (j7 ar m e s) (yY ar m e s)
theorem eD.must(h:eD s (sz m e+n)):eD (bV (cy ar m) want e s) n:=h.of (j6 (j7 ar m e)) (mV (yY ar m e))
theorem eD.all(h:eD s (gD (sz m) l+n)):eD (eT (cy ar m) want l s) n:=h.of (kH (λx _=>j7 ar m x) s) (ya (λx _=>yY ar m x) s)
def Hc(m:Nat)(S:Nat->Prop)(w:World)(b o:Nat)(e:Ex):Prop:=pV m S w b o e/\w.cell? ⟨b,o+1,none⟩=some (.int .i64 e.ai)
theorem fC(h:eB m S w pv es)(h0:0<es.length):
  ∃k g cap,m=k+1/\pv=.slice (some ⟨g,0,none⟩) es.length cap/\S g/\g<w.heap.size/\es.length<=cap/\∀j,(hj:j<es.length)->Hc k S w g (j*5) es[j]:=by
 have h':=h;obtain⟨k,g,cap,hm,hp,hs,hg,hc,hat⟩:=h.at h0;refine⟨k,g,cap,hm,hp,hs,hg,hc,λj hj=>⟨hat j hj,?_⟩⟩;subst hm
 rcases h' with⟨rfl,_⟩|⟨g',cap',aU,h1,h2,h3,h4,h5⟩
 ·simp at h0
 rw [hp]at h1;simp only [Value.slice.injEq,Option.some.injEq,Addr.mk.injEq]at h1;obtain⟨⟨rfl,_⟩,_⟩:=h1;obtain⟨pj,a,b⟩:=h5 j hj
 have hc:aU[j*5+1]?=(eX es[j] pj)[1]?:=by
  rw [<-a,List.getElem?_take,if_pos (by omega),List.getElem?_drop];simp
 rw [ae h4,hc]
 rfl
def Ev(B:Nat)(w0:World)(fb fo:Nat)(ps:List Nat)(r:Nat):Prop:=
 w0.cell? ⟨fb,fo+4,none⟩=some (.int .i64 r)/\∃po pc,w0.cell? ⟨fb,fo+3,none⟩=some (.slice po ps.length pc)/\(0<ps.length->∃gb,po=some ⟨gb,0,none⟩/\gb<B/\ps.length<=pc/\∀j,(hj:j<ps.length)->w0.cell? ⟨gb,j*3+2,none⟩=some (.int .i64 ps[j]))
def NU(B:Nat)(w0:World)(ar:gS)(ag:List UInt8)(e:Ending):Prop:=
 (ar.sig ag=none/\∃q,e=.returned (.tuple #[.string q,.pointer none]))\/∃ps r q fb fo,ar.sig ag=some (ps,r)/\e=.returned (.tuple #[.string q,.pointer (some ⟨fb,fo,none⟩)])/\fb<B/\Ev B w0 fb fo ps r/\ps.length<=100000
def Ew(B:Nat)(w0:World)(vb:VK)(ar:gS):Prop:=
 ∀(ag:List UInt8) (lk:List Us) (uv:Value) (w:World),Below B w0 w->Vw B vb lk uv w->lk.length<=4000000000->Calls prog 261 #[.pointer (some ⟨vb.b,0,none⟩),.string ⟨ag.toArray⟩] w λe w'=>NU B w0 ar ag e/\∃qA,fQ vb uv qA w w'/\Vw B vb (lk++ar.use ag) qA w'
def Knows(B kb:Nat)(vb:VK)(w:World)(s':KS)(w':World):Prop:=Below B w w'/\∃sv,Kk B kb vb s' sv w'
theorem Knows.trans{s':KS}(h:Below B w w1)(k:Knows B kb vb w1 s' w2):Knows B kb vb w s' w2:=⟨h.trans k.1,k.2⟩
theorem Knows.size(h:Knows B kb vb w1 s w):B<=w.heap.size:=by
 obtain⟨_,sv,hc⟩:=h;have:=hc.lt;have:=hc.low;omega
theorem Knows.cell(h:Knows B kb vb w1 s w)(hw:Below B w0 w1){b:Nat}(hb:b<B)(o:Nat):w.cell? ⟨b,o,none⟩=w0.cell? ⟨b,o,none⟩:=aC (hw.trans h.1) hb o
theorem CC(h:Knows B kb vb w1 s w)(c p:Nat):
  Calls prog 176 #[.pointer (some ⟨kb,0,none⟩),.int .i64 c,.int .i64 p] w λe w'=>e=.returned (.tuple #[])/\Knows B kb vb w1 (s.tell c p) w':=by
 obtain⟨hb,sv,hk⟩:=h;refine(yL B kb vb s sv w hk c p).mono ?_;rintro e w' ⟨rfl,h1,h2⟩;refine⟨rfl,hb.trans ⟨h1.os,h1.tape,h1.output,h1.size,λk hlt=>h1.block k (by have:=hk.lt;have:=hk.low;omega) (by have:=hk.low;omega)⟩,sv,h2⟩
def tj(B:Nat)(w0:World)(S:Nat->Prop)(ar:gS)(kb:Nat)(vb:VK)(m:Nat):Prop:=
 ∀(e:Ex) (b o:Nat) (s:KS) (w1 w:World),lV (λ_=>True) (m+1) e->Hc m S w0 b o e->b<B->Knows B kb vb w1 s w->Below B w0 w1->eD s (sz (m+1) e)->
  Calls prog 218 #[.pointer (some ⟨kb,0,none⟩),.pointer (some ⟨b,o,none⟩)] w λe' w'=>e'=.returned (.int .i64 (cy ar (m+1) e s).1)/\Knows B kb vb w1 (cy ar (m+1) e s).2 w'
theorem pg(ih:tj B w0 S ar kb vb k)(e:Ex)(b o:Nat)(s:KS)(w1 w:World)(kh:lV (λ_=>True) (k+1) e)(hat:Hc k S w0 b o e)(hb:b<B)(h:Knows B kb vb w1 s w)(hw:Below B w0 w1)(hf:eD s (sz (k+1) e))(want:Nat):
  Calls prog 177 #[.pointer (some ⟨kb,0,none⟩),.pointer (some ⟨b,o,none⟩),.int .i64 want] w λe' w'=>e'=.returned (.tuple #[])/\Knows B kb vb w1 (bV (cy ar (k+1)) want e s) w':=by
 have HI:=aa ih;have lI:=aa kh;have ox:=aa hat;have HK:=aa h;have HW:=aa hw;have HM:=aa (show bV (cy ar (k+1)) want e s=if o6 (cy ar (k+1) e s).1 want then(cy ar (k+1) e s).2.tell 8 e.ai else(cy ar (k+1) e s).2 from rfl);generalize hr:cy ar (k+1) e s=r at*;have HR:=aa hr;clear ih kh hat h hw hr
 rcases h1:((r.1:Int) !=(want:Int))with _|_
 ·have HX:=aa (show bV (cy ar (k+1)) want e s=r.2 by rw [HM.o];have:r.1=want:=(by simp at h1;omega);simp [o6,this])
  go_enter func177,ntmps177
  go_wp2_with fail
  refine(HI.o e b o s w1 _ lI.o ox.o hb HK.o HW.o hf).mono ?_;rintro e' w2 ⟨rfl,hk2⟩;rw [HR.o]at hk2⊢;have uQ:=aa hk2;clear hk2;go_wp2
  go_end0
  exact⟨rfl,by rw [HX.o];exact uQ.o⟩
 have qZ:¬r.1=want:=by simp at h1;omega
 rcases h2:((r.1:Int) !=0)with _|_
 ·have HX:=aa (show bV (cy ar (k+1)) want e s=r.2 by rw [HM.o];have:r.1=0:=(by simp at h2;omega);simp [o6,this])
  go_enter func177,ntmps177
  go_wp2_with fail
  refine(HI.o e b o s w1 _ lI.o ox.o hb HK.o HW.o hf).mono ?_;rintro e' w2 ⟨rfl,hk2⟩;rw [HR.o]at hk2⊢;have uQ:=aa hk2;clear hk2;go_wp2
  go_end0
  exact⟨rfl,by rw [HX.o];exact uQ.o⟩
 have hn2:¬r.1=0:=by simp at h2;omega
 rcases h3:((want:Int) !=0)with _|_
 ·have HX:=aa (show bV (cy ar (k+1)) want e s=r.2 by rw [HM.o];have:want=0:=(by simp at h3;omega);simp [o6,this])
  go_enter func177,ntmps177
  go_wp2_with fail
  refine(HI.o e b o s w1 _ lI.o ox.o hb HK.o HW.o hf).mono ?_;rintro e' w2 ⟨rfl,hk2⟩;rw [HR.o]at hk2⊢;have uQ:=aa hk2;clear hk2;go_wp2
  go_end0
  exact⟨rfl,by rw [HX.o];exact uQ.o⟩
 have hn3:¬want=0:=by simp at h3;omega
 have HX:=aa (show bV (cy ar (k+1)) want e s=r.2.tell 8 e.ai by rw [HM.o];simp [o6,qZ,hn2,hn3])
 go_enter func177,ntmps177
 go_wp2_with fail
 refine(HI.o e b o s w1 _ lI.o ox.o hb HK.o HW.o hf).mono ?_;rintro e' w2 ⟨rfl,hk2⟩;rw [HR.o]at hk2⊢;have c1:=(hk2.cell HW.o hb (o+1)).trans ox.o.2;have z2:=hk2.size
 have y2:b<w2.heap.size:=by omega
 have uQ:=aa hk2;clear hk2
 go_wp2_with fail
 refine(CC uQ.o 8 e.ai).mono ?_;rintro e' w3 ⟨rfl,hk3⟩;have iy:=aa hk3;clear hk3;go_wp2
 go_end0
 exact⟨rfl,by rw [HX.o];exact iy.o⟩
theorem KF(g:Ex->KS->Nat×KS)(want:Nat)(l:List Ex)(x:Ex)(s:KS):eT g want (l++ [x]) s=bV g want x (eT g want l s):=by
 induction l generalizing s with
 |nil=>rfl
 |cons y r ih=>exact ih _
def Jh(k:Nat)(S:Nat->Prop)(w0:World)(B:Nat)(v:Value)(l:List Ex):Prop:=
 (l= []/\∃a c,v=.slice a 0 c)\/∃g oo c,v=.slice (some ⟨g,oo,none⟩) l.length c/\g<B/\l.length<=c/\∀j,(hj:j<l.length)->Hc k S w0 g (oo+j*5) l[j]
theorem RG(ih:tj B w0 S ar kb vb k)(v:Value)(l:List Ex)(s:KS)(w1 w:World)(kh:∀x∈l,lV (λ_=>True) (k+1) x)(hv:Jh k S w0 B v l)(h:Knows B kb vb w1 s w)(hw:Below B w0 w1)(hf:eD s (gD (sz (k+1)) l))(rU:l.length<=1000000)(want:Nat):
  Calls prog 259 #[.pointer (some ⟨kb,0,none⟩),v,.int .i64 want] w λe' w'=>e'=.returned (.tuple #[])/\Knows B kb vb w1 (eT (cy ar (k+1)) want l s) w':=by
 rcases hv with⟨rfl,a,c,rfl⟩|⟨g,oo,c,rfl,hg,hlc,hat⟩
 ·have HK:=aa h
  clear h hw ih
  go_enter func259,ntmps259
  go_wp2
  go_loop [9] (λi=>i=.int .i64 0) (λi=>0)
  case atStart=>rfl
  case round=>
   subst hrel;go_wp2
   go_end0
   exact⟨rfl,HK.o⟩
 have HI:=aa ih;have lI:=aa kh;have ox:=aa hat;have HK:=aa h;have HW:=aa hw;clear ih kh hat h hw
 go_enter func259,ntmps259
 go_wp2
 go_loopw [9] (λi wr=>∃j:Nat,j<=l.length/\i=.int .i64 j/\Hy (Knows B kb vb w1 (eT (cy ar (k+1)) want (l.take j) s) wr)) (λi _=>l.length-(intOf i).toNat)
 case atStart=>exact⟨0,Nat.zero_le _,rfl,by show Knows _ _ _ _ _ _;exact HK.o⟩
 obtain⟨j,hj,rfl,lM⟩:=hrel
 by_cases hlt:j<l.length
 ·have ou:=aa (show eT (cy ar (k+1)) want (l.take (j+1)) s=bV (cy ar (k+1)) want l[j] (eT (cy ar (k+1)) want (l.take j) s) by rw [List.take_succ_eq_append_getElem hlt,KF])
  have Zd:eD (eT (cy ar (k+1)) want (l.take j) s) (sz (k+1) l[j]):=(hf.mono (uL (sz (k+1)) l j hlt)).all
  go_wp2_with fail
  refine(pg HI.o l[j] g (oo+j*5) _ w1 _ (lI.o _ (List.getElem_mem hlt)) (ox.o j hlt) hg lM.o HW.o Zd want).mono ?_;rintro e' w2 ⟨rfl,hk2⟩;have uQ:=aa hk2;clear hk2;go_wp2
  go_roundw
  case rel=>exact⟨j+1,by omega,by go_num,by show Knows _ _ _ _ _ _;rw [ou.o];exact uQ.o⟩
  case measure=>simp [intOf];omega
 have jU:j=l.length:=by omega
 subst jU;have oK:=aa (show l.take l.length=l from List.take_length);go_wp2
 go_end0
 exact⟨rfl,by have:=lM.o;rw [oK.o]at this;exact this⟩
theorem Hd(ag:List UInt8)(l:List (List UInt8×Nat))(j:Nat)(hj:j<l.length):jW ag (l.take (j+1)).reverse=if l[j].1=ag then some l[j].2 else jW ag (l.take j).reverse:=by
 rw [List.take_succ_eq_append_getElem hj,List.reverse_append]
 rfl
theorem CD(e:Ex)(b o:Nat)(s:KS)(w1 w:World)(hat:Hc m S w0 b o e)(hb:b<B)(h:Knows B kb vb w1 s w)(hw:Below B w0 w1)(hf:s.az.length<=1000000):
  Calls prog 255 #[.pointer (some ⟨kb,0,none⟩),.pointer (some ⟨b,o,none⟩)] w λe' w'=>e'=.returned (.int .i64 (sN e s).1)/\Knows B kb vb w1 (sN e s).2 w':=by
 obtain⟨⟨pv,a0,a2,a3,a4,ap⟩,a1⟩:=hat;have c2:=(h.cell hw hb (o+2)).trans a2;have Ji:=aa a1;have z:=h.size
 have y:b<w.heap.size:=by omega
 obtain⟨hbl,sv,hk⟩:=h;obtain⟨so,sc,rfl⟩:=ak hk.oV;obtain⟨f0,f1,f2,f3⟩:=hk.field;have h1:=hk.lt;have HK:=aa hk;have HB:=aa hbl;have HW:=aa hw
 have HC:=aa (λ(j:Nat) (hj:j<s.az.length)=>by
  obtain⟨g,cap,aU,hv,xG,hg2,hg3,hg4,rR,Gp⟩:=cN hk.oV (by omega);have ho:=hk.oV;rw [hv]at ho
  exact(⟨g,cap,hv,af hg2,(dt ho (j*2) (by omega)).trans (w_ _ j hj).1,(dt ho (j*2+1) (by omega)).trans (w_ _ j hj).2,hg3⟩:∃g cap,Value.slice so s.az.length sc=.slice (some ⟨g,0,none⟩) s.az.length cap/\g<w.heap.size/\w.cell? ⟨g,j*2,none⟩=some (.string ⟨(s.az[j].1).toArray⟩)/\w.cell? ⟨g,j*2+1,none⟩=some (.int .i64 s.az[j].2)/\s.az.length<=cap))
 clear hk hbl hw a0 a2 a3 a4 ap a1
 go_enter func255,ntmps255
 go_wp2
 go_loopw [5] (λi wr=>∃q:Int,-1<=q/\q<s.az.length/\i=.int .i64 q/\Hy (jW e.ag s.az.reverse=jW e.ag (s.az.take (q+1).toNat).reverse)/\Hy (Below w.heap.size w wr)) (λi _=>(intOf i+1).toNat)
 case atStart=>exact⟨(s.az.length:Int)-1,by omega,by omega,by first|rfl|(congr 1;omega),by show jW _ _=_;rw [show((s.az.length:Int)-1+1).toNat=s.az.length by omega,List.take_length],Below.refl _ _⟩
 obtain⟨q,RH,Mz,rfl,HF,eM⟩:=hrel;have Cu:=eM.o.size;have d1:=(eM.o.cell (p:=⟨kb,1,none⟩) h1).trans f1;have d2:=(eM.o.cell (p:=⟨b,o+2,none⟩) y).trans c2
 have y':b<wr.heap.size:=by omega
 have MM:kb<wr.heap.size:=by omega
 rcases (by omega:q<0\/0<=q)with ac'|jR
 ·have hq:q= -1:=by omega
  subst hq
  have HV:=aa (show sN e s=(0,s.tell 3 e.ai) by
   have:=HF.o;simp [jW]at this
   simp [sN,this])
  have lM:=aa (show Knows B kb vb w1 s wr from⟨HB.o.trans (eM.o.mono (by omega)),_,HK.o.below eM.o⟩);have e1:=(lM.o.cell HW.o hb (o+1)).trans Ji.o
  go_wp2_with fail
  refine(CC lM.o 3 e.ai).mono ?_;rintro e' w3 ⟨rfl,hk3⟩;have iy:=aa hk3;clear hk3;go_wp2;go_ret;exact⟨bR (by rw [HV.o];rfl),by rw [HV.o];exact iy.o⟩
 obtain⟨j,rfl⟩:∃j:Nat,(j:Int)=q:=⟨q.toNat,by omega⟩
 have hj:j<s.az.length:=by omega
 obtain⟨g,cap,hv,hg,g0,g1,vW⟩:=HC.o j hj;simp only [Value.slice.injEq]at hv;obtain⟨rfl,_,rfl⟩:=hv;have i0:=(eM.o.cell (p:=⟨g,j*2,none⟩) hg).trans g0;have i1:=(eM.o.cell (p:=⟨g,j*2+1,none⟩) hg).trans g1
 have XV:g<wr.heap.size:=by omega
 have HT:=aa (Hd e.ag s.az j hj);have HF':=aa (show jW e.ag s.az.reverse=jW e.ag (s.az.take (j+1)).reverse by have:=HF.o;rwa [show((j:Int)+1).toNat=j+1 by omega]at this)
 rcases he:(s.az[j].1==e.ag)with _|_
 ·have hne:¬s.az[j].1=e.ag:=by simpa using he
  go_wp2_with fail
  go_quiet (fail)
  go_wp2
  go_roundw
  case rel=>exact⟨(j:Int)-1,by omega,by omega,by first|rfl|(congr 1;omega),by show jW _ _=_;rw [HF'.o,HT.o,if_neg hne,show((j:Int)-1+1).toNat=j by omega],eM.o.trans ((bA wr nq).mono Cu)⟩
  case measure=>simp [intOf]<;>omega
 have heq:s.az[j].1=e.ag:=by simpa using he
 have HV:=aa (show sN e s=(s.az[j].2,s) by
  have:=HF'.o;rw [HT.o,if_pos heq]at this
  simp [sN,this])
 go_wp2_with fail
 go_quiet (fail)
 go_wp2;go_ret;exact⟨bR (by rw [HV.o]),by rw [HV.o];exact⟨HB.o.trans ((eM.o.trans ((bA wr nq).mono Cu)).mono (by omega)),_,HK.o.below (eM.o.trans ((bA wr nq).mono Cu))⟩⟩
theorem Ey:(prog.info? 303).map (λi=>(i.zero,i.size,i.bytes))=some (some (.agg #[.string ⟨#[]⟩,.int .i64 0]),2,24):=by kernel_rfl
theorem Kk.mL{sv:Value}(h:Kk B kb vb s sv w)(hg:w.grownBy w2 sv.ownBlock)(v':Value)(l:List (List UInt8×Nat))(ho:w2.ownsRow B 303 2 v' l.length (eG l))(hw:∀k,v'.ownBlock=some k->sv.ownBlock=some k\/w.heap.size<=k):
  Below B w (w2.setCell ⟨kb,1,none⟩ v')/\Kk B kb vb {s with az:=l} v' (w2.setCell ⟨kb,1,none⟩ v'):=by
 have Aj:=h.lt;have nK:=h.low;have hbl:Below B w w2:=⟨hg.os,hg.tape,hg.output,hg.size,λk hk=>hg.block k (by omega) (λe=>by have:=(aG h.oV k e.symm).1;omega)⟩
 have hv:v'.ownBlock≠some kb:=λe=>(hw _ e).elim (λh'=>h.n1 h') (λh'=>by omega)
 refine⟨hbl.setCell (p:=⟨kb,1,none⟩) nK v',⟨nK,?_,a8 ho hv _ _,hv,?_⟩⟩
 ·rw [ax ((hg.block _ Aj (λe=>h.n1 e.symm)).trans h.blk)];rfl
 obtain⟨uv,hu,hd⟩:=h.vw;exact⟨uv,(hu.keep (λk hk=>hg.block k (hu.has hk).2 (λe=>(hd k hk).2 e.symm))).set (λk hk=>(hd k hk).1) _ _,λk hk=>⟨(hd k hk).1,λe=>(hw k e).elim (hd k hk).2 (λe'=>by have:=(hu.has hk).2;omega)⟩⟩
theorem CE(l:List (List UInt8×Nat)):(eG l).length=l.length*2:=by
 induction l with
 |nil=>rfl
 |cons x r ih=>
  rw [show eG (x::r)= [.string ⟨x.1.toArray⟩,.int .i64 x.2]++eG r from rfl,List.length_append,ih];simp;omega
theorem Vu(hS:∀k,S k->k<B)(ih:∀k,m=k+1->tj B w0 S ar kb vb k)(e:Ex)(b o:Nat)(s:KS)(w1 w:World)(pa pb pc:Ex)(hp:e.aw= [pa,pb,pc])(kh:∀x∈e.aw,lV (λ_=>True) m x)(hat:Hc m S w0 b o e)(hb:b<B)(h:Knows B kb vb w1 s w)(hw:Below B w0 w1)(hf:eD s (1+gD (sz m) e.aw)):
  Calls prog 257 #[.pointer (some ⟨kb,0,none⟩),.pointer (some ⟨b,o,none⟩)] w λe' w'=>e'=.returned (.int .i64 (RF (cy ar m) pa pb pc s).1)/\Knows B kb vb w1 (RF (cy ar m) pa pb pc s).2 w':=by
 obtain⟨⟨pv,a0,a2,a3,a4,ap⟩,a1⟩:=hat;obtain⟨k,g,cap,fO,rfl,qU,eP,vW,hch⟩:=fC ap (by rw [hp];simp);have mi:=hS g qU;subst fO;have HI:=aa (ih k rfl);rw [hp]at a4 kh hf;have HA:=aa (show w0.cell? ⟨b,o+4,none⟩=some (.slice (some ⟨g,0,none⟩) 3 cap)from a4);have A7:=aa (show Hc k S w0 g 0 pa by have:=hch 0 (by rw [hp];simp);simpa [hp]using this);have GJ:=aa (show Hc k S w0 g 5 pb by have:=hch 1 (by rw [hp];simp);simpa [hp]using this);have HCc:=aa (show Hc k S w0 g 10 pc by have:=hch 2 (by rw [hp];simp);simpa [hp]using this);have Jb:=aa (kh pa (by simp));have Nz:=aa (kh pb (by simp));have Bg:=aa (kh pc (by simp));have HB:=aa hw;have HW:=aa h;have Ay:gD (sz (k+1)) [pa,pb,pc]=sz (k+1) pa+(sz (k+1) pb+(sz (k+1) pc+0)):=rfl;have fa:eD s (sz (k+1) pa):=hf.mono (by omega);have fb:eD (bV (cy ar (k+1)) 2 pa s) (sz (k+1) pb):=(hf.mono (show sz (k+1) pa+sz (k+1) pb<=_ by omega)).must;have fc:eD (cy ar (k+1) pb (bV (cy ar (k+1)) 2 pa s)).2 (sz (k+1) pc):=((hf.mono (show sz (k+1) pa+(sz (k+1) pb+sz (k+1) pc)<=_ by omega)).must).ty;unfold RF;generalize hs1:bV (cy ar (k+1)) 2 pa s=t1 at*;generalize hs2:cy ar (k+1) pb t1=t2 at*;have Gl:=aa hs1;have Mu:=aa hs2;clear hch kh a0 a1 a2 a3 a4 ap ih hw h hp vW eP hf Ay hs1 hs2;have c0:=(HW.o.cell HB.o hb (o+4)).trans HA.o;have z0:=HW.o.size
 have y0:b<w.heap.size:=by omega
 have x0:g<w.heap.size:=by omega
 go_enter func257,ntmps257
 go_wp2_with fail
 refine(pg HI.o pa g 0 s w1 _ Jb.o A7.o mi HW.o HB.o fa 2).mono ?_;rintro e' w2 ⟨rfl,hk2⟩;rw [Gl.o]at hk2;have uQ:=aa hk2;have c2:=(hk2.cell HB.o hb (o+4)).trans HA.o;have z2:=hk2.size
 have y2:b<w2.heap.size:=by omega
 have x2:g<w2.heap.size:=by omega
 clear hk2 c0
 go_wp2_with fail
 refine(HI.o pb g 5 t1 w1 _ Nz.o GJ.o mi uQ.o HB.o fb).mono ?_;rintro e' w3 ⟨rfl,hk3⟩;rw [Mu.o]at hk3⊢;have iy:=aa hk3;have c3:=(hk3.cell HB.o hb (o+4)).trans HA.o;have z3:=hk3.size
 have y3:b<w3.heap.size:=by omega
 have x3:g<w3.heap.size:=by omega
 clear hk3 c2
 go_wp2_with fail
 refine(pg HI.o pc g 10 t2.2 w1 _ Bg.o HCc.o mi iy.o HB.o fc t2.1).mono ?_;rintro e' w4 ⟨rfl,hk4⟩;have QF:=aa hk4;clear hk4 c3;go_wp2;go_ret;exact⟨rfl,QF.o⟩
theorem RI(hS:∀k,S k->k<B)(ih:∀k,m=k+1->tj B w0 S ar kb vb k)(e:Ex)(b o:Nat)(s:KS)(w1 w:World)(pa pb:Ex)(hp:e.aw= [pa,pb])(kh:∀x∈e.aw,lV (λ_=>True) m x)(hat:Hc m S w0 b o e)(hb:b<B)(h:Knows B kb vb w1 s w)(hw:Below B w0 w1)(hf:eD s (1+gD (sz m) e.aw)):
  Calls prog 258 #[.pointer (some ⟨kb,0,none⟩),.pointer (some ⟨b,o,none⟩)] w λe' w'=>e'=.returned (.int .i64 (yX (cy ar m) e.ag pa pb s).1)/\Knows B kb vb w1 (yX (cy ar m) e.ag pa pb s).2 w':=by
 obtain⟨⟨pv,a0,a2,a3,a4,ap⟩,a1⟩:=hat;obtain⟨k,g,cap,fO,rfl,qU,eP,vW,hch⟩:=fC ap (by rw [hp];simp);have mi:=hS g qU;subst fO;have HI:=aa (ih k rfl);rw [hp]at a4 kh hf;have HA:=aa (show w0.cell? ⟨b,o+4,none⟩=some (.slice (some ⟨g,0,none⟩) 2 cap)from a4);have HN:=aa a2;have A7:=aa (show Hc k S w0 g 0 pa by have:=hch 0 (by rw [hp];simp);simpa [hp]using this);have GJ:=aa (show Hc k S w0 g 5 pb by have:=hch 1 (by rw [hp];simp);simpa [hp]using this);have Jb:=aa (kh pa (by simp));have Nz:=aa (kh pb (by simp));have HB:=aa hw;have HW:=aa h;have Ay:gD (sz (k+1)) [pa,pb]=sz (k+1) pa+(sz (k+1) pb+0):=rfl;have s1:(cy ar (k+1) pa s).2.az=s.az:=j7 ar (k+1) pa s;have s2:=j7 ar (k+1) pb {(cy ar (k+1) pa s).2 with az:=(cy ar (k+1) pa s).2.az++ [(e.ag,(cy ar (k+1) pa s).1)]};have fa:eD s (sz (k+1) pa):=hf.mono (by omega);have fq:eD (cy ar (k+1) pa s).2 (1+sz (k+1) pb):=(hf.mono (show sz (k+1) pa+(1+sz (k+1) pb)<=_ by omega)).ty;unfold yX;generalize hs1:cy ar (k+1) pa s=t1 at*;have fb:eD {t1.2 with az:=t1.2.az++ [(e.ag,t1.1)]} (sz (k+1) pb):=fq.push _;generalize hs2:cy ar (k+1) pb {t1.2 with az:=t1.2.az++ [(e.ag,t1.1)]}=t2 at*;simp only at s2;rw [s1]at s2;have Gl:=aa hs1;have Mu:=aa hs2;have ky:=aa s1;have kg:=aa s2
 have Mw:s.az.length<=1000000:=by have:=hf.sc;omega
 obtain⟨i0,hi,hz0,hz1,hz2⟩:=info_parts Ey;clear hch kh a0 a1 a2 a3 a4 ap ih hw h hp vW eP hf fq Ay s1 s2 hs1 hs2;have c0:=(HW.o.cell HB.o hb (o+4)).trans HA.o;have z0:=HW.o.size
 have y0:b<w.heap.size:=by omega
 have x0:g<w.heap.size:=by omega
 obtain⟨qC,sv0,Dy⟩:=HW.o;obtain⟨so,sc,rfl⟩:=ak Dy.oV;obtain⟨_,f1,_,_⟩:=Dy.field;have fl:=Dy.lt;clear qC Dy
 go_enter func258,ntmps258
 go_wp2_with fail
 refine(HI.o pa g 0 s w1 _ Jb.o A7.o mi HW.o HB.o fa).mono ?_;rintro e' w2 ⟨rfl,hk2⟩;rw [Gl.o]at hk2⊢;have n2:=(hk2.cell HB.o hb (o+2)).trans HN.o;have z2:=hk2.size
 have y2:b<w2.heap.size:=by omega
 obtain⟨hb2,sv2,hc2⟩:=hk2;obtain⟨qo,qc,rfl⟩:=ak hc2.oV;obtain⟨f0,GG,f2,f3⟩:=hc2.field;have g0:=aj hc2.blk;have h1:=hc2.lt;have h2:=hc2.low
 have hl2:t1.2.az.length=s.az.length:=by rw [ky.o]
 rw [hl2]at GG hc2;have uQ:=aa hc2;have cU:=aa hb2;clear hb2 hc2 c0 f1
 have b1:s.az.length+1<=maxLen:=by unfold maxLen;omega
 have b2:(s.az.length+1)*24<=140737488355328:=by omega
 have qV:∀u∈ [Value.string ⟨e.ag.toArray⟩,Value.int .i64 t1.1],u.oneCell'=true:=by
  intro u hu
  rcases List.mem_cons.1 hu with rfl|hu
  ·rfl
  ·rcases List.mem_cons.1 hu with rfl|hu
   ·rfl
   ·cases hu
 have kp:=aa qV
 have TF:B<=(w2.drew.alloc (.cells #[.string ⟨e.ag.toArray⟩,.int .i64 t1.1] 303)).heap.size:=by simp;omega
 have pZ:=aa TF;have Bg:=aa (show w2.ownsRow B 303 2 (.slice qo s.az.length qc) s.az.length (eG s.az) by have:=uQ.o.oV;rw [ky.o]at this;exact this);clear qV TF
 go_wp2_with fail
 go_cut [] (λwx=>Hy (Knows B kb vb w1 {t1.2 with az:=t1.2.az++ [(e.ag,t1.1)]} wx))
 case first=>
  go_region_law (refine cv rfl (.tmp 24) (.tmp 31) 222 rfl B 303 i0 (.agg #[.string ⟨#[]⟩,.int .i64 0]) 2 24 underlying222 hi hz0 hz1 hz2 rfl (by decide) (.slice qo s.az.length qc) s.az.length (eG s.az) ?_ ?_ ⟨w2.heap.size,0,none⟩ 1 1 [.string ⟨e.ag.toArray⟩,.int .i64 t1.1] ?_ rfl ?_ kp.o b1 b2 ?_ ?_;(simp [Act.eval,Act.put]);(exact(World.ownsRow.drew Bg.o).alloc _);(simp [Act.eval,Act.put]);(exact(pT w2.drew _ _ _));(exact pZ.o);intro v' w4 hown aB aJ;obtain⟨vo,vc,rfl⟩:=ak hown;have HG:=aa (dS (aA aB));have HO:=aa hown;have Bh:=aa aJ;have fO:=(HG.o.block kb h1 (λe=>uQ.o.n1 e.symm)).trans uQ.o.blk;have k1:=ae fO 1;have kf:=aj fO;have kl:=af fO;simp at k1;clear hown aB aJ fO)
  all_goals
   have HQ:=aa (uQ.o.mL HG.o (.slice vo (s.az.length+1) vc) (t1.2.az++ [(e.ag,t1.1)]) (by rw [ow,ky.o,List.length_append];exact HO.o) (λq e=>(Bh.o q e).imp (λh=>by exact h) (λh=>by have h':w2.heap.size+1<=q:=(by simpa using h);omega)))
   (try go_wp2_with fail)
   go_meet
   exact⟨cU.o.trans HQ.o.1,_,HQ.o.2⟩
 have KG:=hcut;have c5:=(KG.o.cell HB.o hb (o+4)).trans HA.o;have z5:=KG.o.size
 have y5:b<wc.heap.size:=by omega
 have x5:g<wc.heap.size:=by omega
 clear f0 GG f2 f3 g0 n2
 go_wp2_with fail
 refine(HI.o pb g 5 _ w1 _ Nz.o GJ.o mi KG.o HB.o fb).mono ?_;rintro e' w6 ⟨rfl,QB⟩;rw [Mu.o]at QB⊢;obtain⟨kz,sv6,ki⟩:=QB
 have oL:t2.2.az.length=s.az.length+1:=by rw [kg.o];simp
 obtain⟨d,dc,aU,rfl,GL,N1,hd3,hd4,hd5,hd6⟩:=cN ki.oV (by omega);obtain⟨f0,f1,f2,f3⟩:=ki.field;have g0:=aj ki.blk;have hl:=ki.lt;have N2:=af N1;have fY:=aa kz
 have HP:=aa (ki.mL (tK w6 _) (.slice (some ⟨d,0,none⟩) s.az.length dc) (t2.2.az.take s.az.length) (by
  have:=D_ ki.oV s.az.length (by omega);rw [kg.o]at this⊢;rw [List.take_left,ow]at*;rw [List.take_left' (by rw [CE])]at this
  exact this) (λk e=>Or.inl e))
 have hdc:s.az.length<=dc:=by omega
 clear kz ki N1 hd5 hd6 c5;go_wp2;go_ret;exact⟨rfl,fY.o.trans HP.o.1,_,HP.o.2⟩
def fE(g:Ex->KS->Nat×KS):List (Ex×Nat)->KS->KS
 | [],s=>s
 |x::r,s=>fE g r (bV g x.2 x.1 s)
theorem yZ(g:Ex->KS->Nat×KS)(l:List (Ex×Nat))(x:Ex×Nat)(s:KS):fE g (l++ [x]) s=bV g x.2 x.1 (fE g l s):=by
 induction l generalizing s with
 |nil=>rfl
 |cons y r ih=>exact ih _
theorem NV(g:Ex->KS->Nat×KS)(l:List Ex)(ts:List Nat)(s:KS):iU g l ts s=eT g 0 (l.drop (min l.length ts.length)) (fE g (l.zip ts) s):=by
 induction l generalizing ts s with
 |nil=>cases ts<;>rfl
 |cons x r ih=>
  cases ts with
  |nil=>rfl
  |cons t ts=>
   show iU g r ts (bV g t x s)=_;rw [ih];simp only [List.length_cons,Nat.succ_min_succ,List.drop_succ_cons,List.zip_cons_cons,fE]
theorem Ez{l:List (Ex×Nat)}(h:∀x∈l,∀s,(g x.1 s).2.az=s.az)(s:KS):(fE g l s).az=s.az:=by
 induction l generalizing s with
 |nil=>rfl
 |cons x r ih=>
  show(fE g r (bV g x.2 x.1 s)).az=_;rw [ih (λy hy=>h y (by simp [hy])),j6 (h x (by simp))]
def CG(m:Nat)(S:Nat->Prop)(w0:World)(B:Nat)(v:Value)(l:List Ex):Prop:=(l= []/\∃a c,v=.slice a 0 c)\/∃k,m=k+1/\Jh k S w0 B v l
theorem tS(h:Knows B kb vb w1 s w):Knows B kb vb w1 s w.drew:=⟨h.1.drew,_,h.2.choose_spec.drew⟩
theorem NW(g:Ex->KS->Nat×KS)(want:Nat)(s:KS):eT g want [] s=s:=rfl
theorem nX(ih:∀k,m=k+1->tj B w0 S ar kb vb k)(v:Value)(l:List Ex)(s:KS)(w1 w:World)(kh:∀x∈l,lV (λ_=>True) m x)(hv:CG m S w0 B v l)(h:Knows B kb vb w1 s w)(hw:Below B w0 w1)(hf:eD s (gD (sz m) l))(rU:l.length<=1000000)(want:Nat):
  Calls prog 259 #[.pointer (some ⟨kb,0,none⟩),v,.int .i64 want] w λe' w'=>e'=.returned (.tuple #[])/\Knows B kb vb w1 (eT (cy ar m) want l s) w':=by
 rcases hv with⟨rfl,a,c,rfl⟩|⟨k,rfl,hv⟩
 ·have HK:=aa h
  clear h hw ih;rw [NW]
  go_enter func259,ntmps259
  go_wp2
  go_loop [9] (λi=>i=.int .i64 0) (λi=>0)
  case atStart=>rfl
  case round=>
   subst hrel;go_wp2
   go_end0
   exact⟨rfl,HK.o⟩
 exact RG (ih k rfl) v l s w1 w kh hv h hw hf rU want
theorem Bv(hS:∀k,S k->k<B)(ap:eB m S w0 pv es):CG m S w0 B pv es:=by
 rcases Nat.eq_zero_or_pos es.length with h0|jR
 ·obtain⟨po,pc,hv⟩:=ap.none
  exact Or.inl ⟨List.eq_nil_of_length_eq_zero h0,po,pc,by rw [hv,h0]⟩
 obtain⟨k',g,cap,fO,hv,qU,eP,vW,hch⟩:=fC ap jR;exact Or.inr ⟨k',fO,Or.inr ⟨g,0,cap,hv,hS g qU,vW,λj hj=>by rw [Nat.zero_add];exact hch j hj⟩⟩
theorem E0{ag:List UInt8}{e:Ending}(h:NU B w0 ar ag e):
  ∃q ap,e=.returned (.tuple #[.string q,.pointer ap])/\(ap=none/\ar.sig ag=none\/∃ps r fb fo,ar.sig ag=some (ps,r)/\ap=some ⟨fb,fo,none⟩/\fb<B/\Ev B w0 fb fo ps r/\ps.length<=100000):=by
 rcases h with⟨h1,q,rfl⟩|⟨ps,r,q,fb,fo,h1,rfl,h3,h4,h5⟩
 ·exact⟨q,none,rfl,Or.inl ⟨rfl,h1⟩⟩
 exact⟨q,some ⟨fb,fo,none⟩,rfl,Or.inr ⟨ps,r,fb,fo,h1,rfl,h3,h4,h5⟩⟩
theorem NX{sz:Ex->Nat}{l:List (Ex×Nat)}(h:∀x∈l,∀s,(g x.1 s).2.lk.length<=s.lk.length+1000*sz x.1)(s:KS):(fE g l s).lk.length<=s.lk.length+1000*gD sz (l.map Prod.fst):=by
 induction l generalizing s with
 |nil=>exact Nat.le_add_right _ _
 |cons x r ih=>
  have h1:=ih (λy hy=>h y (by simp [hy])) (bV g x.2 x.1 s);have h2:(bV g x.2 x.1 s).lk.length<=s.lk.length+1000*sz x.1:=mV (h x (by simp));show(fE g r (bV g x.2 x.1 s)).lk.length<=_;simp only [gD,List.map_cons,List.foldr_cons]at*;omega
theorem CH{α β:Type}(l:List α)(r:List β)(j:Nat)(hj:j<=r.length):((l.zip r).take j).map Prod.fst=l.take j:=by
 rw [List.map_take]
 by_cases h:l.length<=r.length
 ·rw [List.map_fst_zip h]
 induction l generalizing r j with
 |nil=>simp at h
 |cons x l ih=>
  cases r with
  |nil=>simp at hj;simp [hj]
  |cons y r=>
   cases j with
   |zero=>simp
   |succ j=>
    simp only [List.length_cons]at h hj;simp only [List.zip_cons_cons,List.map_cons,List.take_succ_cons];rw [ih r j (by omega) (by omega)]
theorem eD.fE{ps:List Nat}{j:Nat}(hj:j<=ps.length)(h:eD s (gD (sz m) (l.take j)+n)):eD (fE (cy ar m) ((l.zip ps).take j) s) n:=
 h.of (Ez (λx _=>j7 ar m x.1) s) (by have:=NX (g:=cy ar m) (sz:=sz m) (l:=(l.zip ps).take j) (λx _=>yY ar m x.1) s;rw [CH l ps j hj]at this;exact this)
def arity(s:KS)(n k ai:Nat):KS:=if n=k then s else s.tell 7 ai
theorem CI(hS:∀k,S k->k<B)(ih:∀k,m=k+1->tj B w0 S ar kb vb k)(lJ:Ew B w0 vb ar)(e:Ex)(b o:Nat)(s:KS)(w1 w:World)(kh:∀x∈e.aw,lV (λ_=>True) m x)(hat:Hc m S w0 b o e)(hb:b<B)(h:Knows B kb vb w1 s w)(hw:Below B w0 w1)(hf:eD s (1+gD (sz m) e.aw)):
  Calls prog 256 #[.pointer (some ⟨kb,0,none⟩),.pointer (some ⟨b,o,none⟩)] w λe' w'=>e'=.returned (.int .i64 (lZ ar (cy ar m) e s).1)/\Knows B kb vb w1 (lZ ar (cy ar m) e s).2 w':=by
 obtain⟨⟨pv,a0,a2,a3,a4,ap⟩,a1⟩:=hat;have hpl:=xX (sz m) e.aw (λx _=>C2 m x)
 have rU:e.aw.length<=1000000:=by have:=hf.sc;omega
 have uR:=aa (Bv hS ap);have XW:=aa ap;obtain⟨po,pc,rfl⟩:=ap.none;have HN:=aa a2;have HP:=aa a1;have HA:=aa a4;have HI:=aa ih;have lI:=aa kh;have HB:=aa hw;have HW:=aa h;have HF:=aa lJ;have n0:=(h.cell hw hb (o+2)).trans a2;have z0:=h.size
 have y0:b<w.heap.size:=by omega
 obtain⟨qC,sv0,Dy⟩:=h;obtain⟨f0,_,_,_⟩:=Dy.field;have fl:=Dy.lt;have HK0:=aa Dy;obtain⟨KH,hu0,Vv⟩:=Dy.vw;have Ze:=aa hu0;have HD0:=aa Vv
 have hl0:s.lk.length<=4000000000:=by have:=hf.lk;omega
 have v_:=hf.pS (ar.use e.ag) (ar.le e.ag);have R4:=aa qC;clear hu0 Vv qC Dy a0 a1 a2 a3 a4 ap ih kh hw lJ
 go_enter func256,ntmps256
 go_wp2_with fail
 go_cut [6] (λs6 wx=>∃ap:Option Addr,s6=.pointer ap/\Hy (ap=none/\ar.sig e.ag=none\/∃ps r fb fo,ar.sig e.ag=some (ps,r)/\ap=some ⟨fb,fo,none⟩/\fb<B/\Ev B w0 fb fo ps r/\ps.length<=100000)/\Hy (Knows B kb vb w1 (s.pS (ar.use e.ag)) wx))
 case first=>
  go_region_with (go_at_call 261;go_must (refine Calls.mono (HF.o e.ag s.lk KH _ (by exact(HB.o.trans R4.o).drew) (by exact Ze.o.drew) hl0) ?_;rintro e' w3 ⟨vL,GM,TD,TE⟩;have Dx:=aa (fQ.T6 TD);have N3:=aa TE;clear TD TE;have abx:∃q ap,e'=.returned (.tuple #[.string q,.pointer ap])/\(ap=none/\ar.sig e.ag=none\/∃ps r fb fo,ar.sig e.ag=some (ps,r)/\ap=some ⟨fb,fo,none⟩/\fb<B/\Ev B w0 fb fo ps r/\ps.length<=100000):=E0 vL;clear vL;obtain⟨q,ap,rfl,hap⟩:=abx;have HAp:=aa hap;clear hap))
  all_goals
   (try go_wp2_with fail)
   go_meet
   exact⟨ap,rfl,HAp.o,R4.o.trans (HK0.o.found Ze.o HD0.o Dx.o N3.o).1,_,(HK0.o.found Ze.o HD0.o Dx.o N3.o).2⟩
 obtain⟨ap,rfl,HAp,KG⟩:=hcut
 have HV0:=aa (show ∀v,lZ ar (cy ar m) e s=v↔(match ar.sig e.ag with|none=>(0,eT (cy ar m) 0 e.aw ((s.pS (ar.use e.ag)).tell 3 e.ai))|some (ps,r)=>(r,iU (cy ar m) e.aw ps (if e.aw.length=ps.length then s.pS (ar.use e.ag)else(s.pS (ar.use e.ag)).tell 7 e.ai)))=v from λv=>Iff.rfl)
 have hss:(s.pS (ar.use e.ag)).az=s.az:=rfl;generalize cR:s.pS (ar.use e.ag)=sq at*;clear cR Ze HD0 hl0;clear f0 n0;have c1:=(KG.o.cell HB.o hb (o+1)).trans HP.o;have c4:=(KG.o.cell HB.o hb (o+4)).trans HA.o;have z5:=KG.o.size
 have y5:b<wc.heap.size:=by omega
 rcases HAp.o with⟨rfl,hl⟩|⟨ps,r,fb,fo,hl,rfl,Jj,xK,YV⟩
 ·have HV:=aa (show lZ ar (cy ar m) e s=(0,eT (cy ar m) 0 e.aw (sq.tell 3 e.ai)) by rw [HV0.o,hl])
  go_wp2_with fail
  refine(CC KG.o 3 e.ai).mono ?_;rintro e' w3 ⟨rfl,hk3⟩;have d4:=(hk3.cell HB.o hb (o+4)).trans HA.o;have z3:=hk3.size
  have y3:b<w3.heap.size:=by omega
  have iy:=aa hk3;have hf3:eD (sq.tell 3 e.ai) (gD (sz m) e.aw):=v_.tell _ _;clear hk3 c1 c4
  go_wp2_with fail
  refine(nX HI.o _ e.aw _ w1 _ lI.o uR.o iy.o HB.o hf3 rU 0).mono ?_;rintro e' w4 ⟨rfl,hk4⟩;have QF:=aa hk4;clear hk4;go_wp2;go_ret;exact⟨bR (by rw [HV.o];rfl),by rw [HV.o];exact QF.o⟩
 obtain⟨sg1,Zf,Zg,sg2,sg3⟩:=xK;have HSg:=aa sg3;have KI:=aa sg1;have RJ:=aa sg2;have HV:=aa (show lZ ar (cy ar m) e s=(r,eT (cy ar m) 0 (e.aw.drop (min e.aw.length ps.length)) (fE (cy ar m) (e.aw.zip ps) (arity sq e.aw.length ps.length e.ai))) by rw [HV0.o,hl];simp [NV,arity]);have d3:=(KG.o.cell HB.o Jj (fo+3)).trans sg2
 have yf:fb<wc.heap.size:=by omega
 clear sg1 sg2 sg3 hl
 go_wp2_with fail
 have NY:=aa (show(e.aw.zip ps).length=min e.aw.length ps.length from List.length_zip);obtain⟨fit,mM⟩:∃fit,min e.aw.length ps.length=fit:=⟨_,rfl⟩;rw [mM]at HV NY
 have ada:fit<=e.aw.length:=by omega
 have adb:fit<=ps.length:=by omega
 have NZ:=aa mM
 rcases hne:((e.aw.length:Int) !=(ps.length:Int))with _|_
 ·have heq:e.aw.length=ps.length:=by simp at hne;omega
  have Al:=aa (show arity sq e.aw.length ps.length e.ai=sq by simp [arity,heq])
  go_quiet (fail)
  have M0:=aa (show Knows B kb vb w1 (arity sq e.aw.length ps.length e.ai) (wc.drewN nq) by rw [Al.o];exact⟨KG.o.1.trans ((bA wc nq).mono z5),_,KG.o.2.choose_spec.below (bA wc nq)⟩)
  go_wp2_with fail
  generalize hwz:wc.drewN nq=wz at M0⊢;clear hwz c1 c4 d3 hne heq Al;have c4:=(M0.o.cell HB.o hb (o+4)).trans HA.o;have d3:=(M0.o.cell HB.o Jj (fo+3)).trans RJ.o;have z6:=M0.o.size
  have y6:b<wz.heap.size:=by omega
  have x6:fb<wz.heap.size:=by omega
  have Vx:eD (arity sq e.aw.length ps.length e.ai) (gD (sz m) e.aw):=by unfold arity;split;exact v_;exact v_.tell _ _
  generalize hs0:arity sq e.aw.length ps.length e.ai=s0 at*;clear hs0 mM
  go_cut [7] (λs7 wx=>s7=.int .i64 fit/\wx=wz.drew)
  case first=>
   rcases Nat.lt_or_ge ps.length e.aw.length with hlt|dG
   ·have q1:(ps.length:Int)<(e.aw.length:Int):=by omega
    have q2:ps.length=fit:=by have:=NZ.o;omega
    go_region
    all_goals
     (try go_wp2_with fail)
     go_meet
     exact⟨by rw [<-q2],rfl⟩
   ·have q1:¬(ps.length:Int)<(e.aw.length:Int):=by omega
    have q2:e.aw.length=fit:=by have:=NZ.o;omega
    go_region
    all_goals
     (try go_wp2_with fail)
     go_meet
     exact⟨by rw [<-q2],rfl⟩
  case rest=>
   obtain⟨rfl,rfl⟩:=hcut;have HKb:=aa (show Knows B kb vb w1 s0 wz.drew from⟨M0.o.1.drew,_,M0.o.2.choose_spec.drew⟩);clear c4 d3;go_wp2
   go_loopw [64] (λi wr=>∃j:Nat,j<=fit/\i=.int .i64 j/\Hy (Knows B kb vb w1 (fE (cy ar m) ((e.aw.zip ps).take j) s0) wr)) (λi _=>fit-(intOf i).toNat)
   case atStart=>exact⟨0,Nat.zero_le _,rfl,by show Knows _ _ _ _ _ _;exact HKb.o⟩
   case round=>
    obtain⟨j,hj,rfl,lM⟩:=hrel;have e4:=(lM.o.cell HB.o hb (o+4)).trans HA.o;have e3:=(lM.o.cell HB.o Jj (fo+3)).trans RJ.o;have e5:=(lM.o.cell HB.o Jj (fo+4)).trans KI.o;have z7:=lM.o.size
    have y7:b<wr.heap.size:=by omega
    have x7:fb<wr.heap.size:=by omega
    by_cases hlt:j<fit
    ·have jU:j<e.aw.length:=by omega
     have hjp:j<ps.length:=by omega
     obtain⟨k,g,cap,fO,hv,CJ,eP,vW,hch⟩:=fC XW.o (by omega);simp only [Value.slice.injEq]at hv;obtain⟨rfl,_,rfl⟩:=hv;obtain⟨gb,rfl,hgb,TP,xd⟩:=HSg.o (by omega);subst fO;have mi:=hS g CJ;have p1:=(lM.o.cell HB.o hgb (j*3+2)).trans (xd j hjp);have HC:=aa (hch j jU)
     have KA:g<wr.heap.size:=by omega
     have aby:gb<wr.heap.size:=by omega
     have Zd:eD (fE (cy ar (k+1)) ((e.aw.zip ps).take j) s0) (sz (k+1) e.aw[j]):=(Vx.mono (uL (sz (k+1)) e.aw j jU)).fE (by omega)
     have ou:=aa (show fE (cy ar (k+1)) ((e.aw.zip ps).take (j+1)) s0=bV (cy ar (k+1)) ps[j] e.aw[j] (fE (cy ar (k+1)) ((e.aw.zip ps).take j) s0) by
      rw [List.take_succ_eq_append_getElem (by rw [NY.o];exact hlt),yZ,List.getElem_zip])
     have kg:=aa (lI.o e.aw[j] (List.getElem_mem jU));clear xd hch vW
     go_wp2_with fail
     go_region_with (go_at_call 177;go_must (refine(pg (HI.o k rfl) e.aw[j] g (j*5) _ w1 _ kg.o HC.o mi (by exact tS lM.o) HB.o Zd ps[j]).mono ?_;rintro e' w8 ⟨rfl,M3⟩;have Zh:=aa M3;clear M3))
     all_goals
      go_wp2
      go_roundw
      case rel=>exact⟨j+1,by omega,by go_num,by show Knows _ _ _ _ _ _;rw [ou.o];exact Zh.o⟩
      case measure=>simp [intOf];omega
    ·have jU:j=fit:=by omega
     subst jU;have ou:=aa (show(e.aw.zip ps).take j=e.aw.zip ps by rw [<-NY.o,List.take_length]);have TQ:=aa (show Knows B kb vb w1 (fE (cy ar m) (e.aw.zip ps) s0) wr by have:=lM.o;rw [ou.o]at this;exact this);have fF:=tP (sz m) (e.aw.take j) (e.aw.drop j);rw [List.take_append_drop]at fF
     have Zi:eD (fE (cy ar m) (e.aw.zip ps) s0) (gD (sz m) (e.aw.drop j)):=by
      have:=(Vx.mono (show gD (sz m) (e.aw.take j)+gD (sz m) (e.aw.drop j)<=_ by omega)).fE (ar:=ar) (ps:=ps) (by omega);rw [ou.o]at this;exact this
     have Zj:(e.aw.drop j).length<=1000000:=by rw [List.length_drop];omega
     clear fF
     rcases Nat.lt_or_ge j e.aw.length with wj|hjg
     ·obtain⟨k,g,cap,fO,hv,CJ,eP,vW,hch⟩:=fC XW.o (by omega)
      simp only [Value.slice.injEq]at hv;obtain⟨rfl,_,rfl⟩:=hv;have mi:=hS g CJ
      have hcj:¬pc=j:=by omega
      have KA:g<wr.heap.size:=by omega
      have HPd:=aa (show CG m S w0 B (.slice (some ⟨g,j*5,none⟩) (e.aw.length-j) (pc-j)) (e.aw.drop j)from Or.inr ⟨k,fO,Or.inr ⟨g,j*5,pc-j,by rw [List.length_drop],mi,by rw [List.length_drop];omega,λi hi=>by
       rw [List.length_drop]at hi;have:=hch (j+i) (by omega);rw [show(j+i)*5=j*5+i*5 by omega]at this
       simpa [List.getElem_drop]using this⟩⟩)
      clear hch
      go_wp2_with fail
      refine(nX HI.o _ (e.aw.drop j) _ w1 _ (λx hx=>lI.o x (List.mem_of_mem_drop hx)) (by exact HPd.o) TQ.o HB.o Zi Zj 0).mono ?_;rintro e' w9 ⟨rfl,CL⟩;have i5:=(CL.cell HB.o Jj (fo+4)).trans KI.o;have z9:=CL.size
      have x9:fb<w9.heap.size:=by omega
      have Vy:=aa CL;clear CL e3 e4 e5;go_wp2;go_ret;exact⟨bR (by rw [HV.o]),by rw [HV.o];exact Vy.o⟩
     ·have wj:j=e.aw.length:=by omega
      have jH:=aa (show e.aw.drop j= [] by rw [wj];simp);rw [<-wj]at e4
      have TP:j<=pc\/j=0:=by
       rcases Nat.eq_zero_or_pos e.aw.length with h0|jR
       ·right;omega
       ·obtain⟨k,g,cap,fO,hv,CJ,eP,vW,hch⟩:=fC XW.o jR
        simp only [Value.slice.injEq]at hv
        left;omega
      clear TP
      go_wp2_with fail
      all_goals
       refine(nX HI.o _ (e.aw.drop j) _ w1 _ (λx hx=>lI.o x (List.mem_of_mem_drop hx)) (by exact Or.inl ⟨jH.o,_,_,rfl⟩) TQ.o HB.o Zi Zj 0).mono ?_;rintro e' w9 ⟨rfl,CL⟩;have i5:=(CL.cell HB.o Jj (fo+4)).trans KI.o;have z9:=CL.size
       have x9:fb<w9.heap.size:=by omega
       have Vy:=aa CL;clear CL e3 e4 e5;go_wp2;go_ret;exact⟨bR (by rw [HV.o]),by rw [HV.o];exact Vy.o⟩
 have XX:¬e.aw.length=ps.length:=by simp at hne;omega
 have Al:=aa (show arity sq e.aw.length ps.length e.ai=sq.tell 7 e.ai by simp [arity,XX])
 go_quiet (fail)
 have HKq:=aa (show Knows B kb vb w1 sq (wc.drewN nq)from⟨KG.o.1.trans ((bA wc nq).mono z5),_,KG.o.2.choose_spec.below (bA wc nq)⟩)
 go_wp2_with fail
 refine(CC HKq.o 7 e.ai).mono ?_;rintro e' wz ⟨rfl,hk3⟩;have M0:=aa (show Knows B kb vb w1 (arity sq e.aw.length ps.length e.ai) wz by rw [Al.o];exact hk3);clear hk3 c1 c4 d3 hne XX Al
 go_wp2_with fail
 have c4:=(M0.o.cell HB.o hb (o+4)).trans HA.o;have d3:=(M0.o.cell HB.o Jj (fo+3)).trans RJ.o;have z6:=M0.o.size
 have y6:b<wz.heap.size:=by omega
 have x6:fb<wz.heap.size:=by omega
 have Vx:eD (arity sq e.aw.length ps.length e.ai) (gD (sz m) e.aw):=by unfold arity;split;exact v_;exact v_.tell _ _
 generalize hs0:arity sq e.aw.length ps.length e.ai=s0 at*;clear hs0 mM
 go_cut [7] (λs7 wx=>s7=.int .i64 fit/\wx=wz.drew)
 case first=>
  rcases Nat.lt_or_ge ps.length e.aw.length with hlt|dG
  ·have q1:(ps.length:Int)<(e.aw.length:Int):=by omega
   have q2:ps.length=fit:=by have:=NZ.o;omega
   go_region
   all_goals
    (try go_wp2_with fail)
    go_meet
    exact⟨by rw [<-q2],rfl⟩
  ·have q1:¬(ps.length:Int)<(e.aw.length:Int):=by omega
   have q2:e.aw.length=fit:=by have:=NZ.o;omega
   go_region
   all_goals
    (try go_wp2_with fail)
    go_meet
    exact⟨by rw [<-q2],rfl⟩
 obtain⟨rfl,rfl⟩:=hcut;have HKb:=aa (show Knows B kb vb w1 s0 wz.drew from⟨M0.o.1.drew,_,M0.o.2.choose_spec.drew⟩);clear c4 d3;go_wp2
 go_loopw [64] (λi wr=>∃j:Nat,j<=fit/\i=.int .i64 j/\Hy (Knows B kb vb w1 (fE (cy ar m) ((e.aw.zip ps).take j) s0) wr)) (λi _=>fit-(intOf i).toNat)
 case atStart=>exact⟨0,Nat.zero_le _,rfl,by show Knows _ _ _ _ _ _;exact HKb.o⟩
 obtain⟨j,hj,rfl,lM⟩:=hrel;have e4:=(lM.o.cell HB.o hb (o+4)).trans HA.o;have e3:=(lM.o.cell HB.o Jj (fo+3)).trans RJ.o;have e5:=(lM.o.cell HB.o Jj (fo+4)).trans KI.o;have z7:=lM.o.size
 have y7:b<wr.heap.size:=by omega
 have x7:fb<wr.heap.size:=by omega
 by_cases hlt:j<fit
 ·have jU:j<e.aw.length:=by omega
  have hjp:j<ps.length:=by omega
  obtain⟨k,g,cap,fO,hv,CJ,eP,vW,hch⟩:=fC XW.o (by omega);simp only [Value.slice.injEq]at hv;obtain⟨rfl,_,rfl⟩:=hv;obtain⟨gb,rfl,hgb,TP,xd⟩:=HSg.o (by omega);subst fO;have mi:=hS g CJ;have p1:=(lM.o.cell HB.o hgb (j*3+2)).trans (xd j hjp);have HC:=aa (hch j jU)
  have KA:g<wr.heap.size:=by omega
  have aby:gb<wr.heap.size:=by omega
  have Zd:eD (fE (cy ar (k+1)) ((e.aw.zip ps).take j) s0) (sz (k+1) e.aw[j]):=(Vx.mono (uL (sz (k+1)) e.aw j jU)).fE (by omega)
  have ou:=aa (show fE (cy ar (k+1)) ((e.aw.zip ps).take (j+1)) s0=bV (cy ar (k+1)) ps[j] e.aw[j] (fE (cy ar (k+1)) ((e.aw.zip ps).take j) s0) by
   rw [List.take_succ_eq_append_getElem (by rw [NY.o];exact hlt),yZ,List.getElem_zip])
  have kg:=aa (lI.o e.aw[j] (List.getElem_mem jU));clear xd hch vW
  go_wp2_with fail
  go_region_with (go_at_call 177;go_must (refine(pg (HI.o k rfl) e.aw[j] g (j*5) _ w1 _ kg.o HC.o mi (by exact tS lM.o) HB.o Zd ps[j]).mono ?_;rintro e' w8 ⟨rfl,M3⟩;have Zh:=aa M3;clear M3))
  all_goals
   go_wp2
   go_roundw
   case rel=>exact⟨j+1,by omega,by go_num,by show Knows _ _ _ _ _ _;rw [ou.o];exact Zh.o⟩
   case measure=>simp [intOf];omega
 have jU:j=fit:=by omega
 subst jU;have ou:=aa (show(e.aw.zip ps).take j=e.aw.zip ps by rw [<-NY.o,List.take_length]);have TQ:=aa (show Knows B kb vb w1 (fE (cy ar m) (e.aw.zip ps) s0) wr by have:=lM.o;rw [ou.o]at this;exact this);have fF:=tP (sz m) (e.aw.take j) (e.aw.drop j);rw [List.take_append_drop]at fF
 have Zi:eD (fE (cy ar m) (e.aw.zip ps) s0) (gD (sz m) (e.aw.drop j)):=by
  have:=(Vx.mono (show gD (sz m) (e.aw.take j)+gD (sz m) (e.aw.drop j)<=_ by omega)).fE (ar:=ar) (ps:=ps) (by omega);rw [ou.o]at this;exact this
 have Zj:(e.aw.drop j).length<=1000000:=by rw [List.length_drop];omega
 clear fF
 rcases Nat.lt_or_ge j e.aw.length with wj|hjg
 ·obtain⟨k,g,cap,fO,hv,CJ,eP,vW,hch⟩:=fC XW.o (by omega)
  simp only [Value.slice.injEq]at hv;obtain⟨rfl,_,rfl⟩:=hv;have mi:=hS g CJ
  have hcj:¬pc=j:=by omega
  have KA:g<wr.heap.size:=by omega
  have HPd:=aa (show CG m S w0 B (.slice (some ⟨g,j*5,none⟩) (e.aw.length-j) (pc-j)) (e.aw.drop j)from Or.inr ⟨k,fO,Or.inr ⟨g,j*5,pc-j,by rw [List.length_drop],mi,by rw [List.length_drop];omega,λi hi=>by
   rw [List.length_drop]at hi;have:=hch (j+i) (by omega);rw [show(j+i)*5=j*5+i*5 by omega]at this
   simpa [List.getElem_drop]using this⟩⟩)
  clear hch
  go_wp2_with fail
  refine(nX HI.o _ (e.aw.drop j) _ w1 _ (λx hx=>lI.o x (List.mem_of_mem_drop hx)) (by exact HPd.o) TQ.o HB.o Zi Zj 0).mono ?_;rintro e' w9 ⟨rfl,CL⟩;have i5:=(CL.cell HB.o Jj (fo+4)).trans KI.o;have z9:=CL.size
  have x9:fb<w9.heap.size:=by omega
  have Vy:=aa CL;clear CL e3 e4 e5;go_wp2;go_ret;exact⟨bR (by rw [HV.o]),by rw [HV.o];exact Vy.o⟩
 have wj:j=e.aw.length:=by omega
 have jH:=aa (show e.aw.drop j= [] by rw [wj];simp);rw [<-wj]at e4
 have TP:j<=pc\/j=0:=by
  rcases Nat.eq_zero_or_pos e.aw.length with h0|jR
  ·right;omega
  ·obtain⟨k,g,cap,fO,hv,CJ,eP,vW,hch⟩:=fC XW.o jR
   simp only [Value.slice.injEq]at hv
   left;omega
 clear TP
 go_wp2_with fail
 all_goals
  refine(nX HI.o _ (e.aw.drop j) _ w1 _ (λx hx=>lI.o x (List.mem_of_mem_drop hx)) (by exact Or.inl ⟨jH.o,_,_,rfl⟩) TQ.o HB.o Zi Zj 0).mono ?_;rintro e' w9 ⟨rfl,CL⟩;have i5:=(CL.cell HB.o Jj (fo+4)).trans KI.o;have z9:=CL.size
  have x9:fb<w9.heap.size:=by omega
  have Vy:=aa CL;clear CL e3 e4 e5;go_wp2;go_ret;exact⟨bR (by rw [HV.o]),by rw [HV.o];exact Vy.o⟩
theorem Bw(B:Nat)(w0:World)(S:Nat->Prop)(hS:∀k,S k->k<B)(ar:gS)(kb:Nat)(vb:VK)(lJ:Ew B w0 vb ar)(m:Nat)(ih:∀k,m=k+1->tj B w0 S ar kb vb k):tj B w0 S ar kb vb m:=by
 intro e b o s w1 w kh hat hb h hw hf;have Eh:=hat;obtain⟨⟨pv,a0,a2,a3,a4,ap⟩,a1⟩:=hat;obtain⟨abo,hk4,YL,QB,hk3,N4⟩:=kh;have hsz:sz (m+1) e=1+gD (sz m) e.aw:=rfl;rw [hsz]at hf;have hpl:=xX (sz m) e.aw (λx _=>C2 m x);have c0:=(h.cell hw hb o).trans a0;have c4:=(h.cell hw hb (o+4)).trans a4;have z0:=h.size
 have hbl:b<w.heap.size:=by omega
 have rU:e.aw.length<=1000000:=by have:=hf.sc;omega
 have RK:eD s (gD (sz m) e.aw):=hf.mono (by omega)
 have v_:s.az.length<=1000000:=by have:=hf.sc;omega
 have uR:=aa (Bv hS ap);have HP:=aa ap;obtain⟨po,pc,rfl⟩:=ap.none;have HI:=aa ih;have ox:=aa Eh;have lI:=aa N4;have HB:=aa hw;have HW:=aa h;have HF:=aa lJ;clear ih Eh a0 a1 a2 a3 a4 hw h lJ hpl hsz ap N4 hk3
 have hx:e.aL=0\/e.aL=1\/e.aL=2\/e.aL=3\/e.aL=4\/e.aL=5\/e.aL=6\/e.aL=7\/e.aL=8\/e.aL=9\/e.aL=10\/e.aL=11\/e.aL=12\/e.aL=13\/e.aL=14:=by omega
 rcases hx with hk|hk|hk|hk|hk|hk|hk|hk|hk|hk|hk|hk|hk|hk|hk
 ·have HG:=aa (show cy ar (m+1) e s=(1,eT (cy ar m) 1 e.aw s) by simp [cy,hk])
  have gZ:w.cell? ⟨b,o,none⟩=some (.int .i64 0):=by rw [c0,hk];rfl
  clear c0
  go_enter func218,ntmps218
  go_wp2_with fail
  refine(nX HI.o _ e.aw s w1 _ lI.o uR.o HW.o HB.o RK rU 1).mono ?_;rintro e' w3 ⟨rfl,hk3⟩;have iy:=aa hk3;clear hk3;go_wp2;go_ret;exact⟨bR (by rw [HG.o];rfl),by rw [HG.o];exact iy.o⟩
 ·have HG:=aa (show cy ar (m+1) e s=(2,s) by simp [cy,hk])
  have gZ:w.cell? ⟨b,o,none⟩=some (.int .i64 1):=by rw [c0,hk];rfl
  clear c0
  go_enter func218,ntmps218
  go_wp2;go_ret;exact⟨bR (by rw [HG.o];rfl),by rw [HG.o];exact HW.o⟩
 ·have HG:=aa (show cy ar (m+1) e s=sN e s by simp [cy,hk])
  have gZ:w.cell? ⟨b,o,none⟩=some (.int .i64 2):=by rw [c0,hk];rfl
  clear c0
  go_enter func218,ntmps218
  go_wp2_with fail
  refine(CD e b o s w1 _ ox.o hb HW.o HB.o v_).mono ?_;rintro e' w3 ⟨rfl,hk3⟩;have iy:=aa hk3;clear hk3;go_wp2;go_ret;exact⟨bR (by rw [HG.o]),by rw [HG.o];exact iy.o⟩
 ·have HG:=aa (show cy ar (m+1) e s=lZ ar (cy ar m) e s by simp [cy,hk])
  have gZ:w.cell? ⟨b,o,none⟩=some (.int .i64 3):=by rw [c0,hk];rfl
  clear c0
  go_enter func218,ntmps218
  go_wp2_with fail
  refine(CI hS HI.o HF.o e b o s w1 _ lI.o ox.o hb HW.o HB.o hf).mono ?_;rintro e' w3 ⟨rfl,hk3⟩;have iy:=aa hk3;clear hk3;go_wp2;go_ret;exact⟨bR (by rw [HG.o]),by rw [HG.o];exact iy.o⟩
 ·obtain⟨pa,cO⟩:∃pa,e.aw= [pa]:=List.length_eq_one_iff.1 (hk4 hk)
  have HG:=aa (show cy ar (m+1) e s=cy ar m pa s by simp [cy,hk,cO])
  have gZ:w.cell? ⟨b,o,none⟩=some (.int .i64 4):=by rw [c0,hk];rfl
  clear c0;obtain⟨k,g,cap,fO,hv,qU,eP,vW,hch⟩:=fC HP.o (by rw [cO];simp);simp only [Value.slice.injEq]at hv;obtain⟨rfl,_,rfl⟩:=hv;subst fO;have mi:=hS g qU;have A7:=aa (show Hc k S w0 g 0 pa by have:=hch 0 (by rw [cO];simp);simpa [cO]using this);have Jb:=aa (lI.o pa (by simp [cO]))
  have hfa:eD s (sz (k+1) pa):=by rw [cO]at hf;exact hf.mono (by simp only [gD,List.foldr_cons,List.foldr_nil];omega)
  have R7:g<w.heap.size:=by omega
  rw [cO]at c4;have c4':w.cell? ⟨b,o+4,none⟩=some (.slice (some ⟨g,0,none⟩) 1 pc):=c4;clear c4 hch vW
  go_enter func218,ntmps218
  go_wp2_with fail
  refine(HI.o k rfl pa g 0 s w1 _ Jb.o A7.o mi HW.o HB.o hfa).mono ?_;rintro e' w3 ⟨rfl,hk3⟩;have iy:=aa hk3;clear hk3;go_wp2;go_ret;exact⟨bR (by rw [HG.o]),by rw [HG.o];exact iy.o⟩
 ·obtain⟨pa,pb,XY,cO⟩:∃pa pb pc,e.aw= [pa,pb,pc]:=Nx (YL hk)
  have HG:=aa (show cy ar (m+1) e s=RF (cy ar m) pa pb XY s by simp [cy,hk,cO])
  have gZ:w.cell? ⟨b,o,none⟩=some (.int .i64 5):=by rw [c0,hk];rfl
  have N5:=aa cO;clear c0 cO
  go_enter func218,ntmps218
  go_wp2_with fail
  refine(Vu hS HI.o e b o s w1 _ pa pb XY N5.o lI.o ox.o hb HW.o HB.o hf).mono ?_;rintro e' w3 ⟨rfl,hk3⟩;have iy:=aa hk3;clear hk3;go_wp2;go_ret;exact⟨bR (by rw [HG.o]),by rw [HG.o];exact iy.o⟩
 ·obtain⟨pa,pb,cO⟩:∃pa pb,e.aw= [pa,pb]:=Nw (QB hk)
  have HG:=aa (show cy ar (m+1) e s=yX (cy ar m) e.ag pa pb s by simp [cy,hk,cO])
  have gZ:w.cell? ⟨b,o,none⟩=some (.int .i64 6):=by rw [c0,hk];rfl
  have N5:=aa cO;clear c0 cO
  go_enter func218,ntmps218
  go_wp2_with fail
  refine(RI hS HI.o e b o s w1 _ pa pb N5.o lI.o ox.o hb HW.o HB.o hf).mono ?_;rintro e' w3 ⟨rfl,hk3⟩;have iy:=aa hk3;clear hk3;go_wp2;go_ret;exact⟨bR (by rw [HG.o]),by rw [HG.o];exact iy.o⟩
 ·have HG:=aa (show cy ar (m+1) e s=(2,eT (cy ar m) 1 e.aw s) by simp [cy,hk])
  have gZ:w.cell? ⟨b,o,none⟩=some (.int .i64 7):=by rw [c0,hk];rfl
  clear c0
  go_enter func218,ntmps218
  go_wp2_with fail
  refine(nX HI.o _ e.aw s w1 _ lI.o uR.o HW.o HB.o RK rU 1).mono ?_;rintro e' w3 ⟨rfl,hk3⟩;have iy:=aa hk3;clear hk3;go_wp2;go_ret;exact⟨bR (by rw [HG.o];rfl),by rw [HG.o];exact iy.o⟩
 ·have HG:=aa (show cy ar (m+1) e s=(2,eT (cy ar m) 1 e.aw s) by simp [cy,hk])
  have gZ:w.cell? ⟨b,o,none⟩=some (.int .i64 8):=by rw [c0,hk];rfl
  clear c0
  go_enter func218,ntmps218
  go_wp2_with fail
  refine(nX HI.o _ e.aw s w1 _ lI.o uR.o HW.o HB.o RK rU 1).mono ?_;rintro e' w3 ⟨rfl,hk3⟩;have iy:=aa hk3;clear hk3;go_wp2;go_ret;exact⟨bR (by rw [HG.o];rfl),by rw [HG.o];exact iy.o⟩
 ·have HG:=aa (show cy ar (m+1) e s=(1,eT (cy ar m) 1 e.aw s) by simp [cy,hk])
  have gZ:w.cell? ⟨b,o,none⟩=some (.int .i64 9):=by rw [c0,hk];rfl
  clear c0
  go_enter func218,ntmps218
  go_wp2_with fail
  refine(nX HI.o _ e.aw s w1 _ lI.o uR.o HW.o HB.o RK rU 1).mono ?_;rintro e' w3 ⟨rfl,hk3⟩;have iy:=aa hk3;clear hk3;go_wp2;go_ret;exact⟨bR (by rw [HG.o];rfl),by rw [HG.o];exact iy.o⟩
 ·have HG:=aa (show cy ar (m+1) e s=(1,eT (cy ar m) 1 e.aw s) by simp [cy,hk])
  have gZ:w.cell? ⟨b,o,none⟩=some (.int .i64 10):=by rw [c0,hk];rfl
  clear c0
  go_enter func218,ntmps218
  go_wp2_with fail
  refine(nX HI.o _ e.aw s w1 _ lI.o uR.o HW.o HB.o RK rU 1).mono ?_;rintro e' w3 ⟨rfl,hk3⟩;have iy:=aa hk3;clear hk3;go_wp2;go_ret;exact⟨bR (by rw [HG.o];rfl),by rw [HG.o];exact iy.o⟩
 ·have HG:=aa (show cy ar (m+1) e s=(1,eT (cy ar m) 1 e.aw s) by simp [cy,hk])
  have gZ:w.cell? ⟨b,o,none⟩=some (.int .i64 11):=by rw [c0,hk];rfl
  clear c0
  go_enter func218,ntmps218
  go_wp2_with fail
  refine(nX HI.o _ e.aw s w1 _ lI.o uR.o HW.o HB.o RK rU 1).mono ?_;rintro e' w3 ⟨rfl,hk3⟩;have iy:=aa hk3;clear hk3;go_wp2;go_ret;exact⟨bR (by rw [HG.o];rfl),by rw [HG.o];exact iy.o⟩
 ·have HG:=aa (show cy ar (m+1) e s=(1,eT (cy ar m) 1 e.aw s) by simp [cy,hk])
  have gZ:w.cell? ⟨b,o,none⟩=some (.int .i64 12):=by rw [c0,hk];rfl
  clear c0
  go_enter func218,ntmps218
  go_wp2_with fail
  refine(nX HI.o _ e.aw s w1 _ lI.o uR.o HW.o HB.o RK rU 1).mono ?_;rintro e' w3 ⟨rfl,hk3⟩;have iy:=aa hk3;clear hk3;go_wp2;go_ret;exact⟨bR (by rw [HG.o];rfl),by rw [HG.o];exact iy.o⟩
 ·have HG:=aa (show cy ar (m+1) e s=(1,eT (cy ar m) 1 e.aw s) by simp [cy,hk])
  have gZ:w.cell? ⟨b,o,none⟩=some (.int .i64 13):=by rw [c0,hk];rfl
  clear c0
  go_enter func218,ntmps218
  go_wp2_with fail
  refine(nX HI.o _ e.aw s w1 _ lI.o uR.o HW.o HB.o RK rU 1).mono ?_;rintro e' w3 ⟨rfl,hk3⟩;have iy:=aa hk3;clear hk3;go_wp2;go_ret;exact⟨bR (by rw [HG.o];rfl),by rw [HG.o];exact iy.o⟩
 have HG:=aa (show cy ar (m+1) e s=(2,eT (cy ar m) 2 e.aw s) by simp [cy,hk])
 have gZ:w.cell? ⟨b,o,none⟩=some (.int .i64 14):=by rw [c0,hk];rfl
 clear c0
 go_enter func218,ntmps218
 go_wp2_with fail
 refine(nX HI.o _ e.aw s w1 _ lI.o uR.o HW.o HB.o RK rU 2).mono ?_;rintro e' w3 ⟨rfl,hk3⟩;have iy:=aa hk3;clear hk3;go_wp2;go_ret;exact⟨bR (by rw [HG.o];rfl),by rw [HG.o];exact iy.o⟩
theorem N_(B:Nat)(w0:World)(S:Nat->Prop)(hS:∀k,S k->k<B)(ar:gS)(kb:Nat)(vb:VK)(lJ:Ew B w0 vb ar):∀m,tj B w0 S ar kb vb m:=by
 intro m
 induction m with
 |zero=>exact Bw B w0 S hS ar kb vb lJ 0 (λk hk=>by omega)
 |succ m ih=>exact Bw B w0 S hS ar kb vb lJ (m+1) (λk hk=>by
   have e:m=k:=(by omega)
   exact e▸ih)
end Go.Proofs.YtpmmjkiclngpmaaGreatDoor
