/- YtpmmjkiclngpmaaGreatDoorB34 -/
import Derived.Test.YtpmmjkiclngpmaaGreatDoorB33
import Derived.Test.YtpmmjkiclngpmaaGreatDoorB22
set_option maxRecDepth 100000
set_option linter.unusedSimpArgs false
set_option linter.unusedVariables false
set_option maxHeartbeats 12800000
namespace Go.Proofs.YtpmmjkiclngpmaaGreatDoor
open Tryz
open Go.RowKit
variable{e:Ex}{want m:Nat}{l:List Ex}{u:Us}{use:Nm->List Us}{ar look':gS}{g:Ex->CS->CS}{fnd fnd':wY}{f:iL}{pts:List (Option Addr)}{md:Mod}
def CallsIn:Nat->Ex->Nm->Prop
 |0,_,_=>False
 |m+1,e,n=>(e.aL=3/\e.ag=n)\/∃x∈e.aw,CallsIn m x n
theorem mH(s:KS){c:Nat}(hc:c≠0)(p:Nat):(s.tell c p).aK≠0:=by
 unfold KS.tell
 split
 ·exact hc
 next h=>
 intro e
 apply h
 unfold KS.tells;rw [e];rfl
section
variable {g:Ex->KS->Nat×KS} {Q:Ex->Prop}
theorem mZ{s:KS}(h:∀s,(g e s).2.aK=0->s.aK=0/\Q e)(hc:(bV g want e s).aK=0):s.aK=0/\Q e:=by
 unfold bV at hc
 split at hc
 ·exact absurd hc (mH _ (by omega) _)
 exact h s hc
theorem pw(h:∀x∈l,∀s,(g x s).2.aK=0->s.aK=0/\Q x):∀{s:KS},(eT g want l s).aK=0->s.aK=0/\∀x∈l,Q x:=by
 induction l with
 |nil=>intro s hc;exact⟨hc,λx hx=>by cases hx⟩
 |cons x r ih=>
  intro s hc;obtain⟨a,b⟩:=ih (λy hy=>h y (by simp [hy])) (s:=bV g want x s) hc;obtain⟨c,d⟩:=mZ (h x (by simp)) a
  exact⟨c,λy hy=>by rcases List.mem_cons.1 hy with rfl|hy;exact d;exact b y hy⟩
theorem Hs(h:∀x∈l,∀s,(g x s).2.aK=0->s.aK=0/\Q x):∀{ts:List Nat} {s:KS},(iU g l ts s).aK=0->s.aK=0/\∀x∈l,Q x:=by
 induction l with
 |nil=>intro ts s hc;cases ts<;>exact⟨hc,λx hx=>by cases hx⟩
 |cons x r ih=>
  intro ts s hc
  cases ts with
  |nil=>exact pw h hc
  |cons t ts=>
   obtain⟨a,b⟩:=ih (λy hy=>h y (by simp [hy])) (ts:=ts) (s:=bV g t x s) hc;obtain⟨c,d⟩:=mZ (h x (by simp)) a
   exact⟨c,λy hy=>by rcases List.mem_cons.1 hy with rfl|hy;exact d;exact b y hy⟩
end
theorem Sb(ar:gS)(m:Nat):∀(e:Ex),lV (λ_=>True) m e->pd m e->∀s,(cy ar m e s).2.aK=0->s.aK=0/\lV (λn=>(ar.sig n).isSome=true) m e:=by
 induction m with
 |zero=>intro e h;exact absurd h (by simp [lV])
 |succ m ih=>
  intro e h VU s hc;obtain⟨q1,q4,q5,q6,q3,hp⟩:=h;obtain⟨l0,lp⟩:=VU
  have lA:∀x∈e.aw,∀s,(cy ar m x s).2.aK=0->s.aK=0/\lV (λn=>(ar.sig n).isSome=true) m x:=λx hx s=>ih x (hp x hx) (lp x hx) s
  have fin:(e.aL=3->(ar.sig e.ag).isSome=true)->(∀x∈e.aw,lV (λn=>(ar.sig n).isSome=true) m x)->lV (λn=>(ar.sig n).isSome=true) (m+1) e:=λa b=>⟨q1,q4,q5,q6,a,b⟩
  have Ju:e.aL<=2->∀x∈e.aw,lV (λn=>(ar.sig n).isSome=true) m x:=λhk x hx=>by rw [l0 hk]at hx;cases hx
  unfold cy at hc
  split at hc
  ·next hk=>exact⟨hc,fin (by omega) (Ju (by omega))⟩
  split at hc
  ·next hk=>
   refine⟨?_,fin (by omega) (Ju (by omega))⟩;unfold sN at hc
   split at hc
   ·exact hc
   ·exact absurd hc (mH _ (by omega) _)
  split at hc
  ·next hk=>
   unfold lZ at hc
   split at hc
   ·next hl=>
    have:=(pw lA hc).1;exact absurd this (mH _ (by omega) _)
   ·next ps r hl=>
    obtain⟨a,b⟩:=Hs lA hc;refine⟨?_,fin (λ_=>by rw [hl];rfl) b⟩
    split at a
    ·exact a
    ·exact absurd a (mH _ (by omega) _)
  split at hc
  ·next hk=>
   have oT:=q4 hk
   match lz:e.aw,oT with
   | [a],_=>
    rw [lz]at hc;obtain⟨x,y⟩:=lA a (by rw [lz];simp) s hc;exact⟨x,fin (by omega) (by rw [lz];intro z hz;simp at hz;subst hz;exact y)⟩
  split at hc
  ·next hk=>
   obtain⟨a,b,c,lz⟩:=Nx (q5 hk);rw [lz]at hc;simp only [RF]at hc;obtain⟨x1,y1⟩:=mZ (lA c (by rw [lz];simp)) hc;obtain⟨x2,y2⟩:=lA b (by rw [lz];simp) _ x1;obtain⟨x3,y3⟩:=mZ (lA a (by rw [lz];simp)) x2;exact⟨x3,fin (by omega) (by rw [lz];intro z hz;simp at hz;rcases hz with rfl|rfl|rfl;exact y3;exact y2;exact y1)⟩
  split at hc
  ·next hk=>
   obtain⟨a,b,lz⟩:=Nw (q6 hk);rw [lz]at hc;simp only [yX]at hc;obtain⟨x1,y1⟩:=lA b (by rw [lz];simp) _ hc;obtain⟨x2,y2⟩:=lA a (by rw [lz];simp) _ x1;exact⟨x2,fin (by omega) (by rw [lz];intro z hz;simp at hz;rcases hz with rfl|rfl;exact y2;exact y1)⟩
  split at hc
  ·next hk=>obtain⟨x,y⟩:=pw lA hc;exact⟨x,fin (by omega) y⟩
  split at hc
  ·next hk=>obtain⟨x,y⟩:=pw lA hc;exact⟨x,fin (by omega) y⟩
  ·next h1 h2 h3 h4 h5 h6 h7 h8=>obtain⟨x,y⟩:=pw lA hc;exact⟨x,fin (λh=>absurd h h3) y⟩
section
variable {g:Ex->KS->Nat×KS} {U:Ex->Us->Prop}
theorem px{s:KS}(h:∀s,u∈(g e s).2.lk↔u∈s.lk\/U e u):u∈(bV g want e s).lk↔u∈s.lk\/U e u:=by
 unfold bV
 split
 ·rw [i_];exact h s
 exact h s
theorem ru(h:∀x∈l,∀s,u∈(g x s).2.lk↔u∈s.lk\/U x u):∀{s:KS},u∈(eT g want l s).lk↔u∈s.lk\/∃x∈l,U x u:=by
 induction l with
 |nil=>intro s;simp [eT]
 |cons x r ih=>
  intro s;show u∈(eT g want r (bV g want x s)).lk↔_;rw [ih (λy hy=>h y (by simp [hy])),px (h x (by simp)),or_assoc];simp
theorem KZ(h:∀x∈l,∀s,u∈(g x s).2.lk↔u∈s.lk\/U x u):∀{ts:List Nat} {s:KS},u∈(iU g l ts s).lk↔u∈s.lk\/∃x∈l,U x u:=by
 induction l with
 |nil=>intro ts s;cases ts<;>simp [iU,eT]
 |cons x r ih=>
  intro ts s
  cases ts with
  |nil=>exact ru h
  |cons t ts=>
   show u∈(iU g r ts (bV g t x s)).lk↔_;rw [ih (λy hy=>h y (by simp [hy])),px (h x (by simp)),or_assoc];simp
end
def py(use:Nm->List Us)(m:Nat)(e:Ex)(u:Us):Prop:=∃n,CallsIn m e n/\u∈use n
theorem dU(hk:e.aL≠3):py use (m+1) e u↔∃x∈e.aw,py use m x u:=by
 constructor
 ·rintro⟨n,h|⟨x,hx,h⟩,hu⟩
  ·exact absurd h.1 hk
  ·exact⟨x,hx,n,h,hu⟩
 rintro⟨x,hx,n,h,hu⟩;exact⟨n,Or.inr ⟨x,hx,h⟩,hu⟩
theorem zw(hk:e.aL=3):py use (m+1) e u↔u∈use e.ag\/∃x∈e.aw,py use m x u:=by
 constructor
 ·rintro⟨n,h|⟨x,hx,h⟩,hu⟩
  ·exact Or.inl (by rw [h.2];exact hu)
  ·exact Or.inr ⟨x,hx,n,h,hu⟩
 rintro(h|⟨x,hx,n,h,hu⟩)
 ·exact⟨e.ag,Or.inl ⟨hk,rfl⟩,h⟩
 exact⟨n,Or.inr ⟨x,hx,h⟩,hu⟩
theorem VV(ar:gS)(m:Nat):∀(e:Ex),lV (λ_=>True) m e->pd m e->∀(s:KS) (u:Us),u∈(cy ar m e s).2.lk↔u∈s.lk\/py ar.use m e u:=by
 induction m with
 |zero=>intro e h;exact absurd h (by simp [lV])
 |succ m ih=>
  intro e h VU s u;obtain⟨q1,q4,q5,q6,q3,hp⟩:=h;obtain⟨l0,lp⟩:=VU
  have lA:∀x∈e.aw,∀s,u∈(cy ar m x s).2.lk↔u∈s.lk\/py ar.use m x u:=λx hx s=>ih x (hp x hx) (lp x hx) s u
  have Yg:e.aL<=2->∀s:KS,(u∈s.lk↔u∈s.lk\/py ar.use (m+1) e u):=λhk s=>by
   rw [dU (by omega),l0 hk];simp
  unfold cy
  split
  ·next hk=>exact Yg (by omega) s
  split
  ·next hk=>
   unfold sN
   split
   ·exact Yg (by omega) s
   ·show u∈(s.tell _ _).lk↔_
    rw [i_];exact Yg (by omega) s
  split
  ·next hk=>
   rw [zw hk,<-or_assoc];unfold lZ
   split
   ·show u∈(eT _ _ _ _).lk↔_
    rw [ru lA,i_];simp
   ·show u∈(iU _ _ _ _).lk↔_
    rw [KZ lA]
    split
    ·simp
    ·rw [i_];simp
  split
  ·next hk=>
   rw [dU (by omega)]
   match lz:e.aw,q4 hk with
   | [a],_=>
    simp only;rw [lA a (by rw [lz];simp)];simp
  split
  ·next hk=>
   rw [dU (by omega)];obtain⟨a,b,c,lz⟩:=Nx (q5 hk);rw [lz];simp only [RF];rw [px (lA c (by rw [lz];simp)),lA b (by rw [lz];simp),px (lA a (by rw [lz];simp))];simp [or_assoc]
  split
  ·next hk=>
   rw [dU (by omega)];obtain⟨a,b,lz⟩:=Nw (q6 hk);rw [lz];simp only [yX];rw [lA b (by rw [lz];simp)];simp only;rw [lA a (by rw [lz];simp)];simp [or_assoc]
  split
  ·next hk=>rw [dU (by omega)];exact ru lA
  split
  ·next hk=>rw [dU (by omega)];exact ru lA
  ·next h1 h2 h3 h4 h5 h6 h7 h8=>rw [dU h3];exact ru lA
section
variable {g g':Ex->KS->Nat×KS}
theorem lB(h:g e=g' e):bV g want e=bV g' want e:=by funext s;unfold bV;rw [h]
theorem na(h:∀x∈l,g x=g' x):eT g want l=eT g' want l:=by
 induction l with
 |nil=>rfl
 |cons x r ih=>funext s;show eT g want r (bV g want x s)=eT g' want r (bV g' want x s);rw [ih (λy hy=>h y (by simp [hy])),lB (h x (by simp))]
theorem EE(h:∀x∈l,g x=g' x):∀ts,iU g l ts=iU g' l ts:=by
 induction l with
 |nil=>intro ts;cases ts<;>rfl
 |cons x r ih=>
  intro ts
  cases ts with
  |nil=>exact na h
  |cons t ts=>funext s;show iU g r ts (bV g t x s)=iU g' r ts (bV g' t x s);rw [ih (λy hy=>h y (by simp [hy])),lB (h x (by simp))]
end
theorem Oy(m:Nat):∀(e:Ex),(∀n,CallsIn m e n->ar.sig n=look'.sig n/\ar.use n=look'.use n)->cy ar m e=cy look' m e:=by
 induction m with
 |zero=>intro e _;rfl
 |succ m ih=>
  intro e h
  funext s
  have lA:∀x∈e.aw,cy ar m x=cy look' m x:=λx hx=>ih x λn hn=>h n (Or.inr ⟨x,hx,hn⟩)
  unfold cy
  split
  ·rfl
  split
  ·rfl
  split
  ·next hk=>
   obtain⟨a,b⟩:=h e.ag (Or.inl ⟨hk,rfl⟩);unfold lZ;rw [a,b]
   split
   ·rw [na lA]
   ·rw [EE lA]
  split
  ·split
   ·next a lz=>rw [lA a (by rw [lz];simp)]
   ·rfl
  split
  ·split
   ·next a b c lz=>
    unfold RF;rw [lB (lA a (by rw [lz];simp)),lA b (by rw [lz];simp),lB (lA c (by rw [lz];simp))]
   ·rfl
  split
  ·split
   ·next a b lz=>
    unfold yX;rw [lA a (by rw [lz];simp),lA b (by rw [lz];simp)]
   ·rfl
  split
  ·rw [na lA]
  split
  ·rw [na lA]
  ·rw [na lA]
theorem zx{U:Ex->Us->Prop}(h:∀x∈l,∀s,u∈(g x s).lk↔u∈s.lk\/U x u):∀{s:CS},u∈(gG g l s).lk↔u∈s.lk\/∃x∈l,U x u:=by
 induction l with
 |nil=>intro s;simp [gG]
 |cons x r ih=>
  intro s;show u∈(gG g r (g x s)).lk↔_;rw [ih (λy hy=>h y (by simp [hy])),h x (by simp),or_assoc];simp
theorem Sc(fnd:wY)(m:Nat):∀(e:Ex),lV (λ_=>True) m e->pd m e->∀(s:CS) (u:Us),u∈(gen fnd m e s).lk↔u∈s.lk\/py fnd.use m e u:=by
 induction m with
 |zero=>intro e h;exact absurd h (by simp [lV])
 |succ m ih=>
  intro e h VU s u;obtain⟨q1,q4,q5,q6,q3,hp⟩:=h;obtain⟨l0,lp⟩:=VU
  have lA:∀x∈e.aw,∀s,u∈(gen fnd m x s).lk↔u∈s.lk\/py fnd.use m x u:=λx hx s=>ih x (hp x hx) (lp x hx) s u
  have Yg:e.aL<=2->∀s:CS,(u∈s.lk↔u∈s.lk\/py fnd.use (m+1) e u):=λhk s=>by
   rw [dU (by omega),l0 hk];simp
  unfold gen
  split
  ·next hk=>exact Yg (by omega) s
  split
  ·next hk=>exact Yg (by omega) s
  split
  ·next hk=>
   rw [dU (by omega),List.take_of_length_le (by rw [q4 hk];omega)];exact zx lA
  split
  ·next hk=>
   rw [dU (by omega)];obtain⟨a,b,c,lz⟩:=Nx (q5 hk);rw [lz];show u∈(CS.ifs _ _ _ _ _).lk↔_;unfold CS.ifs;show u∈(gen fnd m c _).lk↔_;rw [lA c (by rw [lz];simp)];show u∈(gen fnd m b _).lk\/_↔_;rw [lA b (by rw [lz];simp)];show(u∈(gen fnd m a s).lk\/_)\/_↔_;rw [lA a (by rw [lz];simp)];simp [or_assoc]
  split
  ·next hk=>
   rw [dU (by omega)];obtain⟨a,b,lz⟩:=Nw (q6 hk);rw [lz];show u∈(CS.lets _ _ _ _ _).lk↔_;unfold CS.lets;show u∈(gen fnd m b _).lk↔_;rw [lA b (by rw [lz];simp)];show u∈(gen fnd m a s).lk\/_↔_;rw [lA a (by rw [lz];simp)];simp [or_assoc]
  split
  ·next hk=>
   rw [zw hk];show u∈(gG (gen fnd m) e.aw s).lk++fnd.use e.ag↔_;rw [List.mem_append,zx lA,or_assoc,or_comm (a:=∃x∈e.aw,_)]
  ·next h1 h2 h3 h4 h5 h6=>rw [dU h6];exact zx lA
theorem t_{g':Ex->CS->CS}(h:∀x∈l,g x=g' x):gG g l=gG g' l:=by
 induction l with
 |nil=>rfl
 |cons x r ih=>funext s;show gG g r (g x s)=gG g' r (g' x s);rw [ih (λy hy=>h y (by simp [hy])),h x (by simp)]
theorem K_(m:Nat):∀(e:Ex),(∀n,CallsIn m e n->fnd.sym n=fnd'.sym n/\fnd.use n=fnd'.use n)->gen fnd m e=gen fnd' m e:=by
 induction m with
 |zero=>intro e _;rfl
 |succ m ih=>
  intro e h
  funext s
  have lA:∀x∈e.aw,gen fnd m x=gen fnd' m x:=λx hx=>ih x λn hn=>h n (Or.inr ⟨x,hx,hn⟩)
  unfold gen
  split
  ·rfl
  split
  ·rfl
  split
  ·rw [t_ (λx hx=>lA x (List.mem_of_mem_take hx))]
  split
  ·split
   ·next a b c lz=>
    unfold CS.ifs;rw [lA a (by rw [lz];simp),lA b (by rw [lz];simp),lA c (by rw [lz];simp)]
   ·rfl
  split
  ·split
   ·next a b lz=>
    unfold CS.lets;rw [lA a (by rw [lz];simp),lA b (by rw [lz];simp)]
   ·rfl
  split
  ·next hk=>
   obtain⟨a,b⟩:=h e.ag (Or.inl ⟨hk,rfl⟩);rw [t_ lA,b];show CS.ia _ (fnd.sym e.ag)=CS.ia _ (fnd'.sym e.ag);rw [a]
  ·rw [t_ lA]
def zy(m:Nat)(l:List iL)(n:Nm):Prop:=∃f∈l,CallsIn (m+1) f.br n
def Oz(use:Nm->List Us)(m:Nat)(l:List iL)(u:Us):Prop:=∃n,zy m l n/\u∈use n
theorem CV(h:∀n,CallsIn (m+1) f.br n->fnd.sym n=fnd'.sym n/\fnd.use n=fnd'.use n):dx fnd m f=dx fnd' m f:=by
 funext lk
 unfold dx;rw [K_ (m+1) f.br h]
theorem T_(vn:Nm):∀{l:List iL},(∀n,zy m l n->fnd.sym n=fnd'.sym n/\fnd.use n=fnd'.use n)->f_ vn fnd m l=f_ vn fnd' m l:=by
 intro l
 induction l with
 |nil=>intro _;rfl
 |cons f r ih=>
  intro h
  have h1:=CV (fnd:=fnd) (fnd':=fnd') (m:=m) (f:=f) λn hn=>h n ⟨f,by simp,hn⟩
  have h2:=ih λn ⟨x,hx,hn⟩=>h n ⟨x,by simp [hx],hn⟩
  funext lk
  unfold f_ AF;rw [h1,h2]
theorem Ht(hs:lV (λ_=>True) (m+1) f.br)(hl:pd (m+1) f.br)(lk:List Us)(u:Us):u∈(dx fnd m f lk).lk↔u∈lk\/py fnd.use (m+1) f.br u:=by
 have h:=Sc fnd (m+1) f.br hs hl (enters f.ay (begun lk)) u;rw [(kI f.ay (begun lk) (by simp [begun])).2.2.2.2]at h;exact h
theorem B9{vn:Nm}:∀{l:List iL},(∀f∈l,lV (λ_=>True) (m+1) f.br/\pd (m+1) f.br)->∀(lk:List Us) (u:Us),u∈(f_ vn fnd m l lk).2↔u∈lk\/Oz fnd.use m l u:=by
 intro l
 induction l with
 |nil=>
  intro _ lk u
  constructor
  ·exact Or.inl
  ·rintro(h|⟨n,⟨f,hf,_⟩,_⟩)
   ·exact h
   ·cases hf
 |cons f r ih=>
  intro h lk u;show u∈(f_ vn fnd m r (dx fnd m f lk).lk).2↔_;rw [ih (λx hx=>h x (by simp [hx])),Ht (h f (by simp)).1 (h f (by simp)).2,or_assoc]
  constructor
  ·rintro(q|⟨n,q1,q2⟩|⟨n,⟨x,hx,q1⟩,q2⟩)
   ·exact Or.inl q
   ·exact Or.inr ⟨n,⟨f,by simp,q1⟩,q2⟩
   ·exact Or.inr ⟨n,⟨x,by simp [hx],q1⟩,q2⟩
  ·rintro(q|⟨n,⟨x,hx,q1⟩,q2⟩)
   ·exact Or.inl q
   ·rcases List.mem_cons.1 hx with rfl|hx
    ·exact Or.inr (Or.inl ⟨n,q1,q2⟩)
    ·exact Or.inr (Or.inr ⟨n,⟨x,hx,q1⟩,q2⟩)
theorem O0(hs:lV (λ_=>True) (m+1) f.br)(hl:pd (m+1) f.br)(s:KS)(u:Us):u∈(o8 ar m f s).lk↔u∈s.lk\/py ar.use (m+1) f.br u:=by
 unfold o8;rw [px (U:=py ar.use (m+1)) (λs=>VV ar (m+1) f.br hs hl s u),zi]
theorem La:∀{l:List iL},(∀f∈l,lV (λ_=>True) (m+1) f.br/\pd (m+1) f.br)->∀(s:KS) (u:Us),u∈(gK ar m l s).lk↔u∈s.lk\/Oz ar.use m l u:=by
 intro l
 induction l with
 |nil=>
  intro _ s u
  constructor
  ·exact Or.inl
  ·rintro(h|⟨n,⟨f,hf,_⟩,_⟩)
   ·exact h
   ·cases hf
 |cons f r ih=>
  intro h s u;show u∈(gK ar m r (o8 ar m f s)).lk↔_;rw [ih (λx hx=>h x (by simp [hx])),O0 (h f (by simp)).1 (h f (by simp)).2,or_assoc]
  constructor
  ·rintro(q|⟨n,q1,q2⟩|⟨n,⟨x,hx,q1⟩,q2⟩)
   ·exact Or.inl q
   ·exact Or.inr ⟨n,⟨f,by simp,q1⟩,q2⟩
   ·exact Or.inr ⟨n,⟨x,by simp [hx],q1⟩,q2⟩
  ·rintro(q|⟨n,⟨x,hx,q1⟩,q2⟩)
   ·exact Or.inl q
   ·rcases List.mem_cons.1 hx with rfl|hx
    ·exact Or.inr (Or.inl ⟨n,q1,q2⟩)
    ·exact Or.inr (Or.inr ⟨n,⟨x,hx,q1⟩,q2⟩)
theorem EF(h:∀f∈md.aR,lV (λ_=>True) (m+1) f.br/\pd (m+1) f.br)(u:Us):u∈(rj ar m md pts).lk↔Oz ar.use m md.aR u:=by
 unfold rj;rw [La h,wE,zj];simp
theorem EG:∀{l:List iL},(∀n,zy m l n->ar.sig n=look'.sig n/\ar.use n=look'.use n)->gK ar m l=gK look' m l:=by
 intro l
 induction l with
 |nil=>intro _;rfl
 |cons f r ih=>
  intro h
  have h1:=Oy (ar:=ar) (look':=look') (m+1) f.br λn hn=>h n ⟨f,by simp,hn⟩
  have h2:=ih λn ⟨x,hx,hn⟩=>h n ⟨x,by simp [hx],hn⟩
  funext s
  show gK ar m r (o8 ar m f s)=gK look' m r (o8 look' m f s);unfold o8;rw [h2,lB h1]
theorem EH:∀(l:List lu) (p p':List (Option Addr)),p.map Option.isSome=p'.map Option.isSome->∀L s,iG (l.zip p) L s=iG (l.zip p') L s:=by
 intro l
 induction l with
 |nil=>intro p p' _ L s;rfl
 |cons x r ih=>
  intro p p' h L s
  match p,p' with
  | [],[]=>rfl
  | [],b::q'=>simp at h
  |a::q,[]=>simp at h
  |a::q,b::q'=>
   simp only [List.map_cons,List.cons.injEq]at h;show iG (r.zip q) _ (uT a _ _)=iG (r.zip q') _ (uT b _ _)
   have e:uT a=uT b:=by
    funext pl s
    unfold uT
    cases a<;>cases b<;>simp at h⊢
   rw [e];exact ih q q' h.2 _ _
theorem Hu{p p':List (Option Addr)}(h:∀n,zy m md.aR n->ar.sig n=look'.sig n/\ar.use n=look'.use n)(hp:p.map Option.isSome=p'.map Option.isSome):rj ar m md p=rj look' m md p':=by
 unfold rj;rw [EG h,EH md.aq p p' hp]
theorem ua{L:List (List UInt8)}{n:List UInt8}{p:Nat}{s:KS}(h:(fw L n p s).aK=0):s.aK=0/\n∉L:=by
 unfold fw at h
 split at h
 ·exact absurd h (mH _ (by omega) _)
 next hc=>exact⟨h,λhn=>hc (List.count_pos_iff.2 hn)⟩
theorem EI:∀{l:List (List UInt8×Nat)} {L:List (List UInt8)} {s:KS},(ik l L s).aK=0->s.aK=0/\(l.map Prod.fst).Nodup/\∀x∈l,x.1∉L:=by
 intro l
 induction l with
 |nil=>intro L s h;exact⟨h,List.nodup_nil,λx hx=>by cases hx⟩
 |cons x r ih=>
  intro L s h;obtain⟨a,b,c⟩:=ih (L:=x.1::L) h;obtain⟨d,e⟩:=ua a;refine⟨d,?_,λy hy=> ?_⟩
  ·rw [List.map_cons,List.nodup_cons]
   refine⟨λhn=> ?_,b⟩;obtain⟨y,hy,ZC⟩:=List.mem_map.1 hn;exact c y hy (by rw [ZC];simp)
  ·rcases List.mem_cons.1 hy with rfl|hy
   ·exact e
   ·exact λhn=>c y hy (List.mem_cons_of_mem _ hn)
theorem Hv:∀{l:List (lu×Option Addr)} {L:List (List UInt8)} {s:KS},(iG l L s).aK=0->s.aK=0/\(l.map λx=>x.1.ag).Nodup/\(∀x∈l,x.1.ag∉L)/\∀x∈l,x.2≠none:=by
 intro l
 induction l with
 |nil=>intro L s h;exact⟨h,List.nodup_nil,λx hx=>(by cases hx),λx hx=>by cases hx⟩
 |cons x r ih=>
  intro L s h;obtain⟨a,b,c,d⟩:=ih (L:=x.1.ag::L) h
  have hi:(fw L x.1.ag x.1.ai s).aK=0/\x.2≠none:=by
   unfold uT at a
   split at a
   ·exact absurd a (mH _ (by omega) _)
   ·next hq=>exact⟨a,hq⟩
  obtain⟨e,f⟩:=ua hi.1;refine⟨e,?_,λy hy=> ?_,λy hy=> ?_⟩
  ·rw [List.map_cons,List.nodup_cons]
   refine⟨λhn=> ?_,b⟩;obtain⟨y,hy,ZC⟩:=List.mem_map.1 hn;exact c y hy (by rw [ZC];simp)
  ·rcases List.mem_cons.1 hy with rfl|hy
   ·exact f
   ·exact λhn=>c y hy (List.mem_cons_of_mem _ hn)
  ·rcases List.mem_cons.1 hy with rfl|hy
   ·exact hi.2
   ·exact d y hy
theorem Hw:∀{l:List sL} {L:List (List UInt8)} {s:KS},(j8 l L s).aK=0->s.aK=0:=by
 intro l
 induction l with
 |nil=>intro L s h;exact h
 |cons x r ih=>
  intro L s h;have h1:=ih (L:=x.ag::L) (s:=Hi (fw L x.ag x.ai s) x) h;exact(ua (s:=s) h1).1
theorem Hx:∀{l:List iL},(∀f∈l,lV (λ_=>True) (m+1) f.br/\pd (m+1) f.br)->∀{s:KS},(gK ar m l s).aK=0->s.aK=0/\∀f∈l,lV (λn=>(ar.sig n).isSome=true) (m+1) f.br:=by
 intro l
 induction l with
 |nil=>intro _ s h;exact⟨h,λf hf=>by cases hf⟩
 |cons f r ih=>
  intro hh s h;obtain⟨a,b⟩:=ih (λx hx=>hh x (by simp [hx])) (s:=o8 ar m f s) h;obtain⟨c,d⟩:=mZ (Q:=lV (λn=>(ar.sig n).isSome=true) (m+1)) (λs=>Sb ar (m+1) f.br (hh f (by simp)).1 (hh f (by simp)).2 s) a;have c':s.aK=0:=Hw (s:={s with az:= []}) c
  exact⟨c',λx hx=>by rcases List.mem_cons.1 hx with rfl|hx;exact d;exact b x hx⟩
theorem Se(hh:∀f∈md.aR,lV (λ_=>True) (m+1) f.br/\pd (m+1) f.br)(hl:pts.length=md.aq.length)(h:(rj ar m md pts).aK=0):
  (∀f∈md.aR,lV (λn=>(ar.sig n).isSome=true) (m+1) f.br)/\(md.aR.map λf=>f.ag).Nodup/\(md.aq.map λi=>i.ag).Nodup/\∀p∈pts,p≠none:=by
 obtain⟨a,b⟩:=Hx hh h;obtain⟨c,d,_⟩:=EI a;obtain⟨_,e,_,f⟩:=Hv c;refine⟨b,?_,?_,λp hp=> ?_⟩
 ·rw [List.map_map]at d;exact d
 ·have e2:(md.aq.zip pts).map (λx=>x.1.ag)=md.aq.map λi=>i.ag:=by
   rw [show(λx:lu×Option Addr=>x.1.ag)=(λi:lu=>i.ag)∘Prod.fst from rfl,<-List.map_map,List.map_fst_zip (by omega)]
  rw [e2]at e;exact e
 obtain⟨j,hj,rfl⟩:=List.getElem_of_mem hp
 have xW:j<(md.aq.zip pts).length:=by rw [List.length_zip];omega
 have:=f _ (List.getElem_mem xW);simpa using this
end Go.Proofs.YtpmmjkiclngpmaaGreatDoor
