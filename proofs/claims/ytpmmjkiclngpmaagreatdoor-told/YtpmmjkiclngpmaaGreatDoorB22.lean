/- YtpmmjkiclngpmaaGreatDoorB22 -/
import Derived.Test.YtpmmjkiclngpmaaGreatDoorB21
import Derived.Test.YtpmmjkiclngpmaaGreatDoorB10
set_option maxRecDepth 100000
set_option linter.unusedSimpArgs false
set_option linter.unusedVariables false
set_option maxHeartbeats 12800000
namespace Go.Proofs.YtpmmjkiclngpmaaGreatDoor
open Tryz
open Go.RowKit
variable{e:Ex}{m n k p:Nat}{v:Int}{nm:List UInt8}{st a b QE:PS}{l s:List (List UInt8)}{R fa ex:PS->Ex×PS}
def pd:Nat->Ex->Prop
 |0,_=>True
 |m+1,e=>(e.aL<=2->e.aw= [])/\∀x∈e.aw,pd m x
theorem lV.mono{known:List UInt8->Prop}(h:lV known m e){m':Nat}(hm:m<=m'):lV known m' e:=by
 induction m generalizing e m' with
 |zero=>exact absurd h (by simp [lV])
 |succ m ih=>
  obtain⟨k,rfl⟩:∃k,m'=k+1:=⟨m'-1,by omega⟩;obtain⟨a,b,c,d,f,g⟩:=h;exact⟨a,b,c,d,f,λx hx=>ih (g x hx) (by omega)⟩
def TJ:Nat->Ex->Prop
 |0,_=>True
 |m+1,e=>(7<=e.aL/\e.aL<13->e.aw.length=2)/\(13<=e.aL->e.aw.length=1)/\(0<=e.value/\e.value<100000000000)/\∀x∈e.aw,TJ m x
structure rW (n:Nat) (e:Ex):Prop where
 TK:lV (λ_=>True) n e
 En:∀m,sz m e<=n
 leaf:∀m,pd m e
 arm:∀m,TJ m e
theorem rW.mono{n':Nat}(h:rW n e)(hn:n<=n'):rW n' e:=⟨h.TK.mono hn,λm=>Nat.le_trans (h.En m) hn,h.leaf,h.arm⟩
theorem rW.node{l:List Ex}(hk:k<15)(h4:k=4->l.length=1)(h5:k=5->l.length=3)(h6:k=6->l.length=2)(hl:k<=2->l= [])(h7:7<=k/\k<13->l.length=2)(h13:13<=k->l.length=1)(hv:0<=v/\v<100000000000)(hp:∀x∈l,rW n x)(hs:∀m,gD (sz m) l<=n):rW (n+1) ⟨k,p,nm,v,l⟩ where
 TK:=⟨hk,h4,h5,h6,λ_=>trivial,λx hx=>(hp x hx).TK⟩
 En m:=by
  cases m with
  |zero=>simp only [sz];omega
  |succ m=>simp only [sz];have:=hs m;omega
 leaf m:=by
  cases m with
  |zero=>trivial
  |succ m=>exact⟨hl,λx hx=>(hp x hx).leaf m⟩
 arm m:=by
  cases m with
  |zero=>trivial
  |succ m=>exact⟨h7,h13,hv,λx hx=>(hp x hx).arm m⟩
theorem Eo(g:Ex->Nat)(x:Ex)(l:List Ex):gD g (x::l)=g x+gD g l:=rfl
variable {ws:List Wd}
def Bo(ws:List Wd)(st:PS)(r:Ex×PS):Prop:=r.2.i<ws.length/\st.i<=r.2.i/\(r.2.aH=false->st.aH=false/\rW (r.2.i-st.i) r.1)
def dT(ws:List Wd)(m:Nat)(R:PS->Ex×PS):Prop:=∀st,st.i<ws.length->st.rem ws<m->Bo ws st (R st)
def eR(ws:List Wd):Prop:=(∀s:PS,s.i+1=ws.length->(s.aU ws).aL=0)/\∀s:PS,(s.aU ws).aL=3->fL (s.aU ws).aX<100000000000
theorem C9(hl:eR ws)(hi:st.i<ws.length)(hk:(st.aU ws).aL≠0):(st.next ws).i=st.i+1/\st.i+1<ws.length:=by
 have:=PS.fM hl.1 hk hi;exact⟨by simp only [PS.next];omega,this⟩
theorem vY(h:st.aN ws l=true):(st.aU ws).aL≠0:=by
 unfold PS.aN at h;simp only [Bool.and_eq_true,beq_iff_eq]at h;omega
theorem iZ(hl:eR ws)(hi:st.i<ws.length)(h:st.aN ws l=true):(st.next ws).i=st.i+1/\st.i+1<ws.length:=C9 hl hi (vY h)
structure qX (ws:List Wd) (n:Nat) (st st':PS):Prop where
 lt:st'.i<ws.length
 ge:st.i<=st'.i
 ok:st'.aH=false->st.aH=false/\st'.i=st.i+n
theorem vZ(hl:eR ws)(hi:st.i<ws.length)(hk:(st.aU ws).aL≠0):qX ws 1 st (st.next ws):=
 ⟨PS.cB hi,PS.cj hi,λh=>⟨h,(C9 hl hi hk).1⟩⟩
theorem Bp(hi:st.i<ws.length)(n:Nat):qX ws n st (st.fail ws):=⟨PS.rO hi,PS.rQ hi,λh=>by simp [PS.fail]at h⟩
theorem bN(hl:eR ws)(hi:st.i<ws.length)(t:List UInt8):qX ws 1 st (st.au ws t):=by
 unfold PS.au
 split
 ·next h=>exact vZ hl hi (vY h)
 exact Bp hi 1
theorem gP(hl:eR ws)(hi:st.i<ws.length):qX ws 1 st (st.bH ws):=by
 unfold PS.bH
 split
 ·next h=>exact vZ hl hi (by omega)
 exact Bp hi 1
theorem qY(hl:eR ws)(hi:st.i<ws.length):qX ws 1 st (st.dQ ws):=by
 unfold PS.dQ
 split
 ·next h=>exact vZ hl hi (vY h)
 exact bN hl hi _
theorem qX.trans{c:PS}(h:qX ws n a b)(g:qX ws k b c):qX ws (n+k) a c:=
 ⟨g.lt,Nat.le_trans h.ge g.ge,λhf=>by obtain⟨x,y⟩:=g.ok hf;obtain⟨u,v⟩:=h.ok x;exact⟨u,by omega⟩⟩
theorem mS(h:a.rem ws<m+1)(ha:a.i<b.i)(hb:b.i<ws.length):b.rem ws<m:=by unfold PS.rem at*;omega
theorem ey(h:a.rem ws<m)(ha:a.i<=b.i):b.rem ws<m:=by unfold PS.rem at*;omega
theorem Bq(hl:eR ws)(hi:st.i<ws.length)(t:List UInt8):(st.a_ ws t).i<ws.length/\st.i<=(st.a_ ws t).i/\((st.a_ ws t).aH=false->st.aH=false):=by
 unfold PS.a_
 split
 ·exact⟨PS.cB hi,PS.cj hi,λh=>h⟩
 exact⟨hi,Nat.le_refl _,λh=>h⟩
theorem Br(hl:eR ws)(hR:dT ws m R){l:Ex}(hi:st.i<ws.length)(hm:st.rem ws<m+1)(h0:QE.i<=st.i)(hat:st.aN ws s=true)(hl0:st.aH=false->QE.aH=false/\rW (st.i-QE.i) l):Bo ws QE (fD ws R l st):=by
 have hn:=iZ hl hi hat;have hg:=hR (st.next ws) (PS.cB hi) (mS hm (by omega) (PS.cB hi));refine⟨hg.1,Nat.le_trans h0 (by have:=hg.2.1;show st.i<=(R (st.next ws)).2.i;omega),λhf=> ?_⟩;obtain⟨a,b⟩:=hg.2.2 hf;obtain⟨c,d⟩:=hl0 a;refine⟨c,?_⟩;have e1:=hg.2.1;show rW ((R (st.next ws)).2.i-QE.i) (bin _ _ _)
 have hk:bJ (st.aU ws).aX<13/\7<=bJ (st.aU ws).aX:=by
  unfold bJ
  repeat' split
  all_goals omega
 generalize (R (st.next ws)).2.i=q at*;generalize (R (st.next ws)).1=r at*;refine(rW.node (n:=(st.i-QE.i)+(q-(st.next ws).i)) (by omega) (by omega) (by omega) (by omega) (by omega) (λ_=>rfl) (by omega) (by omega) ?_ ?_).mono (by omega)
 ·intro x hx
  rcases List.mem_cons.1 hx with rfl|hx
  ·exact d.mono (by omega)
  ·rcases List.mem_cons.1 hx with rfl|hx
   ·exact b.mono (by omega)
   ·cases hx
 intro m;have h1:=d.En m;have h2:=b.En m;simp only [gD,List.foldr_cons,List.foldr_nil];omega
theorem Ep(hl:eR ws)(hR:dT ws m R)(s:List (List UInt8)):∀(n:Nat) (l:Ex) (st:PS),st.i<ws.length->st.rem ws<m+1->QE.i<=st.i->
  (st.aH=false->QE.aH=false/\rW (st.i-QE.i) l)->Bo ws QE (dh ws R s n l st):=by
 intro n
 induction n with
 |zero=>intro l st hi hm h0 hl0;exact⟨hi,h0,hl0⟩
 |succ n ih=>
  intro l st hi hm h0 hl0;unfold dh
  split
  ·next hat=>
   have hg:=Br hl hR hi hm h0 hat hl0
   have hq:st.i<=(fD ws R l st).2.i:=by
    have hg:=hR (st.next ws) (PS.cB hi) (mS hm (by have:=iZ hl hi hat;omega) (PS.cB hi));have:=PS.cj hi;have:=hg.2.1;show st.i<=(R (st.next ws)).2.i;omega
   exact ih _ _ hg.1 (ey hm hq) hg.2.1 hg.2.2
  ·exact⟨hi,h0,hl0⟩
theorem mU(hl:eR ws)(hR:dT ws m R)(s:List (List UInt8)):dT ws m (cL ws R s):=by
 intro st hi hm;have hg:=hR st hi hm;exact Ep hl hR s _ _ _ hg.1 (ey (by omega) hg.2.1) hg.2.1 hg.2.2
theorem CA(hl:eR ws)(hf:dT ws m fa):dT ws m (iP ws fa):=by
 have hs:dT ws m (xE ws fa):=mU hl (mU hl hf _) _;intro st hi hm;have hg:=hs st hi hm;unfold iP
 split
 ·next hat=>exact Br hl hs hg.1 (ey (by omega) hg.2.1) hg.2.1 hat hg.2.2
 exact hg
theorem Er(hl:eR ws)(hx:dT ws m ex)(hi:st.i<ws.length)(hm:st.rem ws<m+1)(hat:st.aN ws s=true):Bo ws st (dX ws ex st):=by
 have hn:=iZ hl hi hat;have g1:=hx (st.next ws) (PS.cB hi) (mS hm (by omega) (PS.cB hi));have e1:=bN hl g1.1 [116,104,101,110];have g2:=hx _ e1.lt (mS hm (by have:=g1.2.1;have:=e1.ge;omega) e1.lt);have e2:=bN hl g2.1 [101,108,115,101];have g3:=hx _ e2.lt (mS hm (by have:=g1.2.1;have:=e1.ge;have:=g2.2.1;have:=e2.ge;omega) e2.lt);unfold dX;simp only;generalize ex (st.next ws)=r1 at*;generalize ex (r1.2.au ws [116,104,101,110])=r2 at*;generalize ex (r2.2.au ws [101,108,115,101])=r3 at*;have q1:=g1.2.1;have q2:=g2.2.1;have q3:=g3.2.1;have p1:=e1.ge;have p2:=e2.ge;refine⟨g3.1,by show st.i<=r3.2.i;omega,λhf=> ?_⟩;obtain⟨a3,b3⟩:=g3.2.2 hf;obtain⟨c3,d3⟩:=e2.ok a3;obtain⟨a2,b2⟩:=g2.2.2 c3;obtain⟨c2,d2⟩:=e1.ok a2;obtain⟨a1,b1⟩:=g1.2.2 c2;refine⟨a1,?_⟩;show rW (r3.2.i-st.i) _;refine(rW.node (n:=(r1.2.i-(st.next ws).i)+(r2.2.i-(r1.2.au ws [116,104,101,110]).i)+(r3.2.i-(r2.2.au ws [101,108,115,101]).i)) (by omega) (by omega) (by simp) (by omega) (by omega) (by omega) (by omega) (by omega) ?_ ?_).mono (by omega)
 ·intro x hx
  rcases List.mem_cons.1 hx with rfl|hx
  ·exact b1.mono (by omega)
  ·rcases List.mem_cons.1 hx with rfl|hx
   ·exact b2.mono (by omega)
   ·rcases List.mem_cons.1 hx with rfl|hx
    ·exact b3.mono (by omega)
    ·cases hx
 intro m;have h1:=b1.En m;have h2:=b2.En m;have h3:=b3.En m;simp only [gD,List.foldr_cons,List.foldr_nil];omega
theorem CB(hl:eR ws)(hx:dT ws m ex)(hi:st.i<ws.length)(hm:st.rem ws<m+1)(hat:st.aN ws s=true):Bo ws st (dD ws ex st):=by
 have hn:=iZ hl hi hat;have e1:=(gP hl (PS.cB hi)).trans (bN hl (gP hl (PS.cB hi)).lt [61]);have g1:=hx _ e1.lt (mS hm (by have:=e1.ge;omega) e1.lt);have e2:=bN hl g1.1 [105,110];have g2:=hx _ e2.lt (mS hm (by have:=g1.2.1;have:=e1.ge;have:=e2.ge;omega) e2.lt);unfold dD;simp only;generalize (((st.next ws).bH ws).au ws [61])=s1 at*;generalize ex s1=r1 at*;generalize ex (r1.2.au ws [105,110])=r2 at*;have q1:=g1.2.1;have q2:=g2.2.1;have p1:=e1.ge;have p2:=e2.ge;refine⟨g2.1,by show st.i<=r2.2.i;omega,λhf=> ?_⟩;obtain⟨a2,b2⟩:=g2.2.2 hf;obtain⟨c2,d2⟩:=e2.ok a2;obtain⟨a1,b1⟩:=g1.2.2 c2;obtain⟨c1,d1⟩:=e1.ok a1;refine⟨c1,?_⟩;show rW (r2.2.i-st.i) _;refine(rW.node (n:=(r1.2.i-s1.i)+(r2.2.i-(r1.2.au ws [105,110]).i)) (by omega) (by omega) (by omega) (by simp) (by omega) (by omega) (by omega) (by omega) ?_ ?_).mono (by omega)
 ·intro x hx
  rcases List.mem_cons.1 hx with rfl|hx
  ·exact b1.mono (by omega)
  ·rcases List.mem_cons.1 hx with rfl|hx
   ·exact b2.mono (by omega)
   ·cases hx
 intro m;have h1:=b1.En m;have h2:=b2.En m;simp only [gD,List.foldr_cons,List.foldr_nil];omega
theorem KB(hl:eR ws)(hx:dT ws m ex)(hf:dT ws (m+1) fa):dT ws (m+1) (jN ws ex fa):=by
 intro st hi hm;unfold jN
 split
 ·next h=>exact Er hl hx hi hm h
 split
 ·next h=>exact CB hl hx hi hm h
 exact CA hl hf st hi hm
def TL(ws:List Wd)(st:PS)(r:List Ex×PS):Prop:=r.2.i<ws.length/\st.i<=r.2.i/\(r.2.aH=false->st.aH=false/\(∀x∈r.1,rW (r.2.i-st.i) x)/\∀m,gD (sz m) r.1<=r.2.i-st.i)
theorem G'(hl:eR ws)(hx:dT ws m ex):∀(n:Nat) (st:PS),st.i<ws.length->st.rem ws<m+1->TL ws st (dR ws ex n st):=by
 intro n
 induction n with
 |zero=>intro st hi hm;exact⟨hi,Nat.le_refl _,λh=>⟨h,(λx hx=>by cases hx),λm=>Nat.zero_le _⟩⟩
 |succ n ih=>
  intro st hi hm;unfold dR
  split
  ·next hat=>
   have hn:=iZ hl hi hat;have g1:=hx (st.next ws) (PS.cB hi) (mS hm (by omega) (PS.cB hi));have g2:=ih (ex (st.next ws)).2 g1.1 (ey hm (by have:=g1.2.1;omega));generalize ex (st.next ws)=r1 at*;generalize dR ws ex n r1.2=r2 at*;have q1:=g1.2.1;have q2:=g2.2.1;refine⟨g2.1,by show st.i<=r2.2.i;omega,λhf=> ?_⟩;obtain⟨a2,b2,c2⟩:=g2.2.2 hf;obtain⟨a1,b1⟩:=g1.2.2 a2;refine⟨a1,λx hx=> ?_,λm=> ?_⟩
   ·show rW (r2.2.i-st.i) x
    rcases List.mem_cons.1 hx with rfl|hx
    ·exact b1.mono (by omega)
    ·exact(b2 x hx).mono (by omega)
   ·show gD (sz m) (r1.1::r2.1)<=r2.2.i-st.i
    have h1:=b1.En m;have h2:=c2 m;rw [Eo];omega
  ·exact⟨hi,Nat.le_refl _,λh=>⟨h,(λx hx=>by cases hx),λm=>Nat.zero_le _⟩⟩
theorem KC(hl:eR ws)(hx:dT ws m ex)(hi:st.i<ws.length)(hm:st.rem ws<m):TL ws st (dZ ws ex st):=by
 have e1:=bN hl hi [40];unfold dZ;simp only;generalize st.au ws [40]=s1 at*;have p1:=e1.ge
 split
 ·next hat=>
  have hn:=iZ hl e1.lt hat;exact⟨PS.cB e1.lt,by show st.i<=(s1.next ws).i;omega,λh=>⟨(e1.ok h).1,(λx hx=>by cases hx),λm=>Nat.zero_le _⟩⟩
 have g1:=hx s1 e1.lt (ey hm p1);have g2:=G' hl hx ws.length (ex s1).2 g1.1 (ey (m:=m+1) (a:=st) (by omega) (by have:=g1.2.1;omega));generalize ex s1=r1 at*;generalize dR ws ex ws.length r1.2=r2 at*;have e2:=bN hl g2.1 [41];have q1:=g1.2.1;have q2:=g2.2.1;have p2:=e2.ge;refine⟨e2.lt,by show st.i<=(r2.2.au ws [41]).i;omega,λhf=> ?_⟩;obtain⟨c2,d2⟩:=e2.ok hf;obtain⟨a2,b2,f2⟩:=g2.2.2 c2;obtain⟨a1,b1⟩:=g1.2.2 a2;obtain⟨c1,d1⟩:=e1.ok a1;refine⟨c1,λx hx=> ?_,λm=> ?_⟩
 ·show rW ((r2.2.au ws [41]).i-st.i) x
  rcases List.mem_cons.1 hx with rfl|hx
  ·exact b1.mono (by omega)
  ·exact(b2 x hx).mono (by omega)
 show gD (sz m) (r1.1::r2.1)<=(r2.2.au ws [41]).i-st.i;have h1:=b1.En m;have h2:=f2 m;rw [Eo];omega
theorem rW.Bt(hk:k<=3)(hv:0<=v/\v<100000000000):rW 1 ⟨k,p,nm,v,[]⟩:=
 rW.node (n:=0) (by omega) (by omega) (by omega) (by omega) (λ_=>rfl) (by omega) (by omega) hv (λx hx=>by cases hx) (λm=>Nat.le_refl _)
theorem Es(hl:eR ws)(hx:dT ws m ex)(hf:dT ws m fa):dT ws (m+1) (bI ws ex fa):=by
 intro st hi hm;unfold bI
 split
 ·next hk=>
  have hn:=C9 hl hi (by omega);exact⟨PS.cB hi,PS.cj hi,λh=>⟨h,by show rW ((st.next ws).i-st.i) _;rw [hn.1,Nat.add_sub_cancel_left];exact rW.Bt (by omega) ⟨Int.natCast_nonneg _,by have:=hl.2 st hk;omega⟩⟩⟩
 split
 ·next hk=>
  have hn:=C9 hl hi (by omega);unfold jO
  split
  ·next hat=>
   have hr:(st.next ws).rem ws<m:=mS hm (by omega) (PS.cB hi);have g:=KC hl hx (PS.cB hi) hr;generalize dZ ws ex (st.next ws)=r at*;have q:=g.2.1;refine⟨g.1,by show st.i<=r.2.i;omega,λhf=> ?_⟩;obtain⟨a,b,c⟩:=g.2.2 hf;refine⟨a,?_⟩;show rW (r.2.i-st.i) _;exact(rW.node (n:=r.2.i-(st.next ws).i) (by omega) (by omega) (by omega) (by omega) (by omega) (by omega) (by omega) (by omega) b c).mono (by omega)
  ·exact⟨PS.cB hi,PS.cj hi,λh=>⟨h,by show rW ((st.next ws).i-st.i) _;rw [hn.1,Nat.add_sub_cancel_left];exact rW.Bt (by omega) (by omega)⟩⟩
 split
 ·next hk=>
  have hn:=iZ hl hi hk
  exact⟨PS.cB hi,PS.cj hi,λh=>⟨h,by show rW ((st.next ws).i-st.i) _;rw [hn.1,Nat.add_sub_cancel_left];exact rW.Bt (by omega) (by split<;>omega)⟩⟩
 split
 ·next hk=>
  have hn:=iZ hl hi hk;have g:=hx (st.next ws) (PS.cB hi) (mS hm (by omega) (PS.cB hi));unfold jP;generalize ex (st.next ws)=r at*;have e:=bN hl g.1 [41];have q:=g.2.1;have p:=e.ge;refine⟨e.lt,by show st.i<=(r.2.au ws [41]).i;omega,λhf=> ?_⟩;obtain⟨c,d⟩:=e.ok hf;obtain⟨a,b⟩:=g.2.2 c;refine⟨a,?_⟩;show rW ((r.2.au ws [41]).i-st.i) _;exact(rW.node (n:=r.2.i-(st.next ws).i) (by omega) (by simp) (by omega) (by omega) (by omega) (by omega) (by omega) (by omega) (λx hx=>by rcases List.mem_cons.1 hx with rfl|hx;exact b;cases hx) (λm=>by have:=b.En m;simp only [gD,List.foldr_cons,List.foldr_nil];omega)).mono (by omega)
 have TM:∀k,13<=k->k<15->∀s:List (List UInt8),st.aN ws s=true->Bo ws st (mK ws fa k st):=by
  intro k h1 h2 s hk;have hn:=iZ hl hi hk;have g:=hf (st.next ws) (PS.cB hi) (mS hm (by omega) (PS.cB hi));unfold mK;generalize fa (st.next ws)=r at*;have q:=g.2.1;refine⟨g.1,by show st.i<=r.2.i;omega,λhf=> ?_⟩;obtain⟨a,b⟩:=g.2.2 hf;refine⟨a,?_⟩;show rW (r.2.i-st.i) _;exact(rW.node (n:=r.2.i-(st.next ws).i) h2 (by omega) (by omega) (by omega) (by omega) (by omega) (λ_=>rfl) (by omega) (λx hx=>by rcases List.mem_cons.1 hx with rfl|hx;exact b;cases hx) (λm=>by have:=b.En m;simp only [gD,List.foldr_cons,List.foldr_nil];omega)).mono (by omega)
 split
 ·next hk=>exact TM 13 (by omega) (by omega) _ hk
 split
 ·next hk=>exact TM 14 (by omega) (by omega) _ hk
 exact⟨PS.rO hi,PS.rQ hi,λh=>by simp [PS.fail]at h⟩
theorem x_(hl:eR ws):∀m,dT ws m (rd ws m).1/\dT ws m (rd ws m).2:=by
 intro m
 induction m with
 |zero=>exact⟨λst hi hm=>absurd hm (by omega),λst hi hm=>absurd hm (by omega)⟩
 |succ m ih=>
  have hf:=Es hl ih.1 ih.2;exact⟨KB hl ih.1 hf,hf⟩
def qw(ws:List Wd):Prop:=∀x∈ws,x.aX.length<=100000/\(x.aL≠0->x.aX≠ [])
theorem KD(hs:qw ws)(st:PS):(st.aU ws).aX.length<=100000:=by
 unfold PS.aU List.getD
 rcases h:ws[st.i]? with _|x
 ·simp
 simpa using (hs x (List.mem_of_getElem? h)).1
theorem NN(hs:qw ws)(st:PS)(hk:(st.aU ws).aL≠0):(st.aU ws).aX≠ []:=by
 unfold PS.aU List.getD at*
 rcases h:ws[st.i]? with _|x
 ·rw [h]at hk;simp at hk
 rw [h]at hk;simpa using (hs x (List.mem_of_getElem? h)).2 (by simpa using hk)
theorem Et(hs:qw ws)(st:PS)(h:(st.bH ws).aH=false):(st.cK ws).aX≠ []:=by
 unfold PS.bH at h
 split at h
 ·next hk=>unfold PS.cK;rw [if_pos hk];exact NN hs st (by omega)
 simp [PS.fail]at h
theorem rX(st:PS):st.eF ws=1\/st.eF ws=2:=by unfold PS.eF;split<;>simp
theorem mn(hs:qw ws)(st:PS):(st.cK ws).aX.length<=100000:=by
 unfold PS.cK
 split
 ·exact KD hs st
 simp
theorem yV(hl:eR ws)(hi:st.i<ws.length):qX ws 3 st (bU ws st).2:=
 ((gP hl hi).trans (bN hl (gP hl hi).lt [58])).trans (qY hl ((gP hl hi).trans (bN hl (gP hl hi).lt [58])).lt)
def TN(ws:List Wd)(st:PS)(r:List sL×PS):Prop:=r.2.i<ws.length/\st.i<=r.2.i/\(r.2.aH=false->st.aH=false/\r.1.length<=r.2.i-st.i)/\∀x∈r.1,x.ag.length<=100000/\(x.eF=1\/x.eF=2)
theorem Ha(hl:eR ws)(hs:qw ws):∀(n:Nat) (st:PS),st.i<ws.length->TN ws st (eH ws n st):=by
 intro n
 induction n with
 |zero=>intro st hi;exact⟨hi,Nat.le_refl _,λh=>⟨h,Nat.zero_le _⟩,λx hx=>by cases hx⟩
 |succ n ih=>
  intro st hi;unfold eH
  split
  ·next hat=>
   have hn:=iZ hl hi hat;have e1:=yV hl (PS.cB hi);have g2:=ih _ e1.lt;have lK:(bU ws (st.next ws)).1.ag.length<=100000/\((bU ws (st.next ws)).1.eF=1\/(bU ws (st.next ws)).1.eF=2):=⟨mn hs _,rX _⟩;generalize bU ws (st.next ws)=r1 at*;generalize eH ws n r1.2=r2 at*;have q1:=e1.ge;have q2:=g2.2.1;refine⟨g2.1,by show st.i<=r2.2.i;omega,λhf=> ?_,λx hx=> ?_⟩
   ·obtain⟨a,b⟩:=g2.2.2.1 hf
    obtain⟨c,d⟩:=e1.ok a;exact⟨c,by show(r1.1::r2.1).length<=r2.2.i-st.i;simp;omega⟩
   ·rcases List.mem_cons.1 hx with rfl|hx
    ·exact lK
    ·exact g2.2.2.2 x hx
  ·exact⟨hi,Nat.le_refl _,λh=>⟨h,Nat.zero_le _⟩,λx hx=>by cases hx⟩
theorem Bu(hl:eR ws)(hs:qw ws)(hi:st.i<ws.length):TN ws st (eI ws st):=by
 have e1:=bN hl hi [40];unfold eI;simp only;generalize st.au ws [40]=s1 at*;have p1:=e1.ge
 split
 ·next hat=>
  have hn:=iZ hl e1.lt hat;exact⟨PS.cB e1.lt,by show st.i<=(s1.next ws).i;omega,λh=>⟨(e1.ok h).1,Nat.zero_le _⟩,λx hx=>by cases hx⟩
 have g1:=yV hl e1.lt;have g2:=Ha hl hs ws.length _ g1.lt;have lK:(bU ws s1).1.ag.length<=100000/\((bU ws s1).1.eF=1\/(bU ws s1).1.eF=2):=⟨mn hs _,rX _⟩;generalize bU ws s1=r1 at*;generalize eH ws ws.length r1.2=r2 at*;have e2:=bN hl g2.1 [41];have q1:=g1.ge;have q2:=g2.2.1;have p2:=e2.ge;refine⟨e2.lt,by show st.i<=(r2.2.au ws [41]).i;omega,λhf=> ?_,λx hx=> ?_⟩
 ·obtain⟨c2,d2⟩:=e2.ok hf
  obtain⟨a2,b2⟩:=g2.2.2.1 c2;obtain⟨a1,b1⟩:=g1.ok a2;obtain⟨c1,d1⟩:=e1.ok a1;exact⟨c1,by show(r1.1::r2.1).length<=(r2.2.au ws [41]).i-st.i;simp;omega⟩
 rcases List.mem_cons.1 hx with rfl|hx
 ·exact lK
 exact g2.2.2.2 x hx
structure Za (n:Nat) (f:iL):Prop where
 ag:f.ag.length<=100000
 pn:∀x∈f.ay,x.ag.length<=100000
 pl:f.ay.length<=n
 br:rW n f.br
 ne:f.ag≠ []
 pt:∀x∈f.ay,x.eF=1\/x.eF=2
 rt:f.result=1\/f.result=2
def Zb(ws:List Wd)(st:PS)(r:iL×PS):Prop:=r.2.i<ws.length/\st.i<=r.2.i/\(r.2.aH=false->st.aH=false/\Za (r.2.i-st.i) r.1)
theorem NP(hl:eR ws)(hs:qw ws)(hx:dT ws ws.length ex)(hi:st.i<ws.length):Zb ws st (gw ws ex st):=by
 have a0:=Bq hl hi [112,117,98];have a1:=bN hl a0.1 [102,110];have a2:=gP hl a1.lt;have a3:=Bu hl hs a2.lt;have lK:=mn hs ((st.a_ ws [112,117,98]).au ws [102,110]);have vK:=Et hs ((st.a_ ws [112,117,98]).au ws [102,110]);unfold gw;simp only;generalize st.a_ ws [112,117,98]=s1 at*;generalize s1.au ws [102,110]=s2 at*;generalize s2.bH ws=s3 at*;generalize eI ws s3=ps at*;have a4:=(bN hl a3.1 [58]);generalize ps.2.au ws [58]=s5 at*;have xd:=rX (ws:=ws) s5;have a5:=(qY hl a4.lt).trans (bN hl (qY hl a4.lt).lt [61]);generalize (s5.dQ ws).au ws [61]=s6 at*;have a6:=hx s6 a5.lt (by unfold PS.rem;have:=a5.lt;omega);generalize ex s6=b at*;have a7:=bN hl a6.1 [59];have p0:=a0.2.1;have p1:=a1.ge;have p2:=a2.ge;have p3:=a3.2.1;have p4:=a4.ge;have p5:=a5.ge;have p6:=a6.2.1;have p7:=a7.ge;refine⟨a7.lt,by show st.i<=(b.2.au ws [59]).i;omega,λhf=> ?_⟩;obtain⟨b7,c7⟩:=a7.ok hf;obtain⟨b6,c6⟩:=a6.2.2 b7;obtain⟨b5,c5⟩:=a5.ok b6;obtain⟨b4,c4⟩:=a4.ok b5;obtain⟨b3,c3⟩:=a3.2.2.1 b4;obtain⟨b2,c2⟩:=a2.ok b3;obtain⟨b1,c1⟩:=a1.ok b2;refine⟨a0.2.2 b1,?_⟩;show Za ((b.2.au ws [59]).i-st.i) _;exact⟨lK,λx hx=>(a3.2.2.2 x hx).1,by show ps.1.length<=_;omega,c6.mono (by omega),vK b3,λx hx=>(a3.2.2.2 x hx).2,xd⟩
def Vt(ws:List Wd)(st:PS)(r:List iL×PS):Prop:=
 r.2.i<ws.length/\st.i<=r.2.i/\(r.2.aH=false->st.aH=false/\r.1.length<=r.2.i-st.i/\(∀f∈r.1,Za (r.2.i-st.i) f)/\∀m,(r.1.map λf=>sz m f.br).sum<=r.2.i-st.i)
theorem NQ(hl:eR ws)(hs:qw ws)(hx:dT ws ws.length ex)(hi:st.i<ws.length)(hat:st.aN ws [[112,117,98],[102,110]]=true):st.i+1<=(gw ws ex st).2.i:=by
 have hn:=iZ hl hi hat;have h1:=xb hat hn.2;have a0:=Bq hl hi [112,117,98];have a1:=bN hl a0.1 [102,110];have a2:=gP hl a1.lt;have a3:=Bu hl hs a2.lt;unfold gw;simp only;generalize (st.a_ ws [112,117,98]).au ws [102,110]=s2 at*;generalize s2.bH ws=s3 at*;generalize eI ws s3=ps at*;have a4:=(bN hl a3.1 [58]);generalize ps.2.au ws [58]=s5 at*;have a5:=(qY hl a4.lt).trans (bN hl (qY hl a4.lt).lt [61]);generalize (s5.dQ ws).au ws [61]=s6 at*;have a6:=hx s6 a5.lt (by unfold PS.rem;have:=a5.lt;omega);generalize ex s6=b at*;have a7:=bN hl a6.1 [59];have p2:=a2.ge;have p3:=a3.2.1;have p4:=a4.ge;have p5:=a5.ge;have p6:=a6.2.1;have p7:=a7.ge;show st.i+1<=(b.2.au ws [59]).i;omega
theorem Hb(hl:eR ws)(hs:qw ws)(hx:dT ws ws.length ex):∀(n:Nat) (st:PS),st.i<ws.length->Vt ws st (dp ws ex n st):=by
 intro n
 induction n with
 |zero=>intro st hi;exact⟨hi,Nat.le_refl _,λh=>⟨h,Nat.zero_le _,(λx hx=>by cases hx),λm=>Nat.zero_le _⟩⟩
 |succ n ih=>
  intro st hi;unfold dp
  split
  ·next hat=>
   have g0:=NQ hl hs hx hi hat;have g1:=NP hl hs hx hi;generalize gw ws ex st=r1 at*;have g2:=ih r1.2 g1.1;generalize dp ws ex n r1.2=r2 at*;have q1:=g1.2.1;have q2:=g2.2.1;refine⟨g2.1,by show st.i<=r2.2.i;omega,λhf=> ?_⟩;obtain⟨a2,b2,c2,d2⟩:=g2.2.2 hf;obtain⟨a1,b1⟩:=g1.2.2 a2;refine⟨a1,by show(r1.1::r2.1).length<=r2.2.i-st.i;simp;omega,λf hf=> ?_,λm=> ?_⟩
   ·show Za (r2.2.i-st.i) f
    rcases List.mem_cons.1 hf with rfl|hf
    ·exact⟨b1.ag,b1.pn,by have:=b1.pl;omega,b1.br.mono (by omega),b1.ne,b1.pt,b1.rt⟩
    ·have:=c2 f hf
     exact⟨this.ag,this.pn,by have:=this.pl;omega,this.br.mono (by omega),this.ne,this.pt,this.rt⟩
   ·show((r1.1::r2.1).map λf=>sz m f.br).sum<=r2.2.i-st.i
    have h1:=b1.br.En m;have h2:=d2 m;rw [List.map_cons,List.sum_cons];omega
  ·exact⟨hi,Nat.le_refl _,λh=>⟨h,Nat.zero_le _,(λx hx=>by cases hx),λm=>Nat.zero_le _⟩⟩
theorem NR(hl:eR ws)(hi:st.i<ws.length):qX ws 3 st (mQ ws st).2:=
 ((bN hl hi [117,115,101]).trans (gP hl (bN hl hi [117,115,101]).lt)).trans (bN hl ((bN hl hi [117,115,101]).trans (gP hl (bN hl hi [117,115,101]).lt)).lt [59])
def Zc(ws:List Wd)(st:PS)(r:List lu×PS):Prop:=r.2.i<ws.length/\st.i<=r.2.i/\(r.2.aH=false->st.aH=false/\3*r.1.length<=r.2.i-st.i)/\∀x∈r.1,x.ag.length<=100000
theorem KE(hl:eR ws)(hs:qw ws):∀(n:Nat) (st:PS),st.i<ws.length->Zc ws st (ee ws n st):=by
 intro n
 induction n with
 |zero=>intro st hi;exact⟨hi,Nat.le_refl _,λh=>⟨h,Nat.zero_le _⟩,λx hx=>by cases hx⟩
 |succ n ih=>
  intro st hi;unfold ee
  split
  ·next hat=>
   have e1:=NR hl hi;have g2:=ih _ e1.lt;have lK:(mQ ws st).1.ag.length<=100000:=mn hs _;generalize mQ ws st=r1 at*;generalize ee ws n r1.2=r2 at*;have q1:=e1.ge;have q2:=g2.2.1;refine⟨g2.1,by show st.i<=r2.2.i;omega,λhf=> ?_,λx hx=> ?_⟩
   ·obtain⟨a,b⟩:=g2.2.2.1 hf
    obtain⟨c,d⟩:=e1.ok a;exact⟨c,by show 3*(r1.1::r2.1).length<=r2.2.i-st.i;simp;omega⟩
   ·rcases List.mem_cons.1 hx with rfl|hx
    ·exact lK
    ·exact g2.2.2.2 x hx
  ·exact⟨hi,Nat.le_refl _,λh=>⟨h,Nat.zero_le _⟩,λx hx=>by cases hx⟩
structure AB (n:Nat) (md:Mod):Prop where
 il:3*md.aq.length<=n
 im:∀x∈md.aq,x.ag.length<=100000
 fl:md.aR.length<=n
 fs:∀f∈md.aR,Za n f
 all:∀m,(md.aR.map λf=>sz m f.br).sum<=n
theorem NS(hl:eR ws)(hs:qw ws)(jR:0<ws.length)(hf:(mR ws (rd ws ws.length).1 ⟨0,false,0⟩).2.aH=false):AB ws.length (mR ws (rd ws ws.length).1 ⟨0,false,0⟩).1:=by
 have g1:=KE hl hs ws.length ⟨0,false,0⟩ jR;unfold mR at*;simp only at hf⊢;generalize ee ws ws.length ⟨0,false,0⟩=r1 at*;have g2:=Hb hl hs (x_ hl ws.length).1 ws.length r1.2 g1.1;generalize dp ws (rd ws ws.length).1 ws.length r1.2=r2 at*
 have hr:r2.2.aH=false:=by
  split at hf
  ·exact hf
  ·simp [PS.fail]at hf
 obtain⟨a2,b2,c2,d2⟩:=g2.2.2 hr;obtain⟨a1,b1⟩:=g1.2.2.1 a2;have q1:=g1.1;have q2:=g2.1;simp only at*;exact⟨by show 3*r1.1.length<=_;omega,g1.2.2.2,by show r2.1.length<=_;omega,λf hf=>⟨(c2 f hf).ag,(c2 f hf).pn,by have:=(c2 f hf).pl;omega,(c2 f hf).br.mono (by omega),(c2 f hf).ne,(c2 f hf).pt,(c2 f hf).rt⟩,λm=>Nat.le_trans (d2 m) (by omega)⟩
end Go.Proofs.YtpmmjkiclngpmaaGreatDoor
