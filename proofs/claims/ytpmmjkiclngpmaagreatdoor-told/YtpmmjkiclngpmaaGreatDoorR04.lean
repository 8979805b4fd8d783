/- YtpmmjkiclngpmaaGreatDoorR04 -/
import Derived.Test.YtpmmjkiclngpmaaGreatDoorR03
import Derived.Test.YtpmmjkiclngpmaaGreatDoorB38
set_option maxRecDepth 100000
set_option linter.unusedSimpArgs false
set_option linter.unusedVariables false
set_option maxHeartbeats 12800000
namespace Go.Proofs.YtpmmjkiclngpmaaGreatDoor
open Tryz
open Go.RowKit
variable{F F' D D':List (Nat×Nat)}{sc l:List (List UInt8×Nat)}{f g:KS->KS}{A A' K o:List (Nm×Nm)}{t N N' u p n lo b m i:Nat}{e a:Ex}{ag tx:List UInt8}{ps:List Nat}{xs:List Value}{v vv iv fv:Value}{w w' wc wr w0:World}{st s s1:PS}{X:CX}{U:List Us}{R E fa ex:PS->Ex×PS}{ws:List Wd}{rl:List wK}{fl:List iL}{all:List (List UInt8×RM)}{md:Mod}{z:Nm×Nm}
def F7(x:Nat×Nat):Nat:=x.2*8+ew x.1
theorem vA(c:Nat):ew c<=4:=by unfold ew;split;omega;split;omega;split;omega;split<;>omega
def yn(F:List (Nat×Nat))(s:KS):Prop:=(F= []/\s.aK=0)\/(s.aK≠0/\(s.aK,s.ai)∈F/\∀x∈F,F7 (s.aK,s.ai)<=F7 x)
theorem yn.mem{s:KS}(h:yn F s)(hm:∀x,x∈F↔x∈F'):yn F' s:=by
 rcases h with⟨rfl,h⟩|⟨h1,h2,h3⟩
 ·refine Or.inl ⟨List.eq_nil_iff_forall_not_mem.2 λx hx=> ?_,h⟩
  cases (hm x).2 hx
 exact Or.inr ⟨h1,(hm _).1 h2,λx hx=>h3 x ((hm x).2 hx)⟩
theorem LO(s:KS)(c p:Nat)(hs:s.aK≠0):s.tells c p=decide (F7 (c,p)<F7 (s.aK,s.ai)):=by
 have h1:=vA c;have h2:=vA s.aK;unfold KS.tells F7;rw [Bool.eq_iff_iff];simp only [Bool.or_eq_true,Bool.and_eq_true,decide_eq_true_eq,beq_iff_eq]
 constructor
 ·rintro(h|h|⟨h,h'⟩)
  ·exact absurd h hs
  ·omega
  ·omega
 intro h;refine Or.inr ?_
 by_cases hp:p<s.ai
 ·exact Or.inl hp
 exact Or.inr (by omega)
theorem yn.tell{s:KS}(h:yn F s)(c p:Nat)(hc:c≠0):yn (F++ [(c,p)]) (s.tell c p):=by
 rcases h with⟨rfl,h⟩|⟨h1,h2,h3⟩
 ·have:s.tell c p={s with aK:=c,ai:=p}:=by unfold KS.tell KS.tells;rw [h];rfl
  rw [this];exact Or.inr ⟨hc,by simp,λx hx=>by simp at hx;subst hx;exact Nat.le_refl _⟩
 unfold KS.tell;rw [LO s c p h1]
 by_cases hk:F7 (c,p)<F7 (s.aK,s.ai)
 ·rw [decide_eq_true hk,if_pos rfl]
  refine Or.inr ⟨hc,by simp,λx hx=> ?_⟩
  rcases List.mem_append.1 hx with hx|hx
  ·exact Nat.le_trans (Nat.le_of_lt hk) (h3 x hx)
  ·simp at hx;subst hx;exact Nat.le_refl _
 rw [decide_eq_false hk,if_neg (by simp)];refine Or.inr ⟨h1,by simp [h2],λx hx=> ?_⟩
 rcases List.mem_append.1 hx with hx|hx
 ·exact h3 x hx
 simp at hx;subst hx;omega
structure cQ (f:KS->KS) (sc:List (List UInt8×Nat)) (D:List (Nat×Nat)) (A:List (Nm×Nm)):Prop where
 az:∀s:KS,s.az=sc->(f s).az=sc
 SI:∀(G:List (Nat×Nat)) (s:KS),s.az=sc->yn G s->yn (G++D) (f s)
 keys:∀s:KS,s.az=sc->∀x,x∈(f s).lk.map fg↔x∈s.lk.map fg\/x∈A
theorem cQ.id(sc:List (List UInt8×Nat)):cQ (λs=>s) sc [] []:=⟨λs h=>h,λG s _ h=>by simpa using h,λs _ x=>by simp⟩
theorem cQ.comp{D1 D2:List (Nat×Nat)}{A1 A2:List (Nm×Nm)}(h1:cQ f sc D1 A1)(h2:cQ g sc D2 A2):cQ (λs=>g (f s)) sc (D1++D2) (A1++A2):=
 ⟨λs h=>h2.az _ (h1.az s h),λG s h hb=>by rw [<-List.append_assoc];exact h2.SI _ _ (h1.az s h) (h1.SI G s h hb),λs h x=>by rw [h2.keys _ (h1.az s h),h1.keys s h,List.mem_append,or_assoc]⟩
theorem cQ.perm(h:cQ f sc D A)(hd:∀x,x∈D↔x∈D')(ha:∀x,x∈A↔x∈A'):cQ f sc D' A':=
 ⟨h.az,λG s hs hb=>(h.SI G s hs hb).mem λx=>by rw [List.mem_append,List.mem_append,hd],λs hs x=>by rw [h.keys s hs,ha]⟩
theorem cQ.of(h:cQ f sc D A)(he:∀s:KS,s.az=sc->g s=f s):cQ g sc D A:=
 ⟨λs hs=>by rw [he s hs];exact h.az s hs,λG s hs hb=>by rw [he s hs];exact h.SI G s hs hb,λs hs x=>by rw [he s hs];exact h.keys s hs x⟩
theorem cQ.tell(sc:List (List UInt8×Nat))(c p:Nat)(hc:c≠0):cQ (λs=>s.tell c p) sc [(c,p)] []:=
 ⟨λs h=>by rw [jm];exact h,λG s _ hb=>hb.tell c p hc,λs _ x=>by rw [i_];simp⟩
theorem cQ.pS(sc:List (List UInt8×Nat))(u:List Us):cQ (λs=>s.pS u) sc [] (u.map fg):=
 ⟨λs h=>h,λG s _ hb=>by rw [List.append_nil];exact hb,λs _ x=>by simp [List.map_append]⟩
structure Ty (ar:gS) (sc:List (List UInt8×Nat)) (e:Ex) (t:Nat) (D:List (Nat×Nat)) (A:List (Nm×Nm)) (N:Nat):Prop where
 t2:t<=2
 ty:∀M,N<=M->∀s:KS,s.az=sc->(cy ar M e s).1=t
 does:∀M,N<=M->cQ (λs=>(cy ar M e s).2) sc D A
theorem Ty.mono{ar:gS}(h:Ty ar sc e t D A N)(hn:N<=N'):Ty ar sc e t D A N':=
 ⟨h.t2,λM hM=>h.ty M (by omega),λM hM=>h.does M (by omega)⟩
def dY(t want p:Nat):List (Nat×Nat):=if o6 t want then [(8,p)]else []
theorem Ty.must{ar:gS}(h:Ty ar sc e t D A N)(want M:Nat)(hM:N<=M):cQ (bV (cy ar M) want e) sc (D++dY t want e.ai) A:=by
 rcases hw:o6 t want with _|_
 ·refine((h.does M hM).of λs hs=> ?_).perm (λx=>by simp [dY,hw]) (λx=>Iff.rfl)
  unfold bV;rw [h.ty M hM s hs,hw];rfl
 refine(((h.does M hM).comp (cQ.tell sc 8 e.ai (by omega))).of λs hs=> ?_).perm (λx=>by simp [dY,hw]) (λx=>by simp);unfold bV;rw [h.ty M hM s hs,hw];rfl
theorem Ty.Bt(ar:gS)(sc:List (List UInt8×Nat))(p:Nat)(v:Int):Ty ar sc ⟨1,p,[],v,[]⟩ 2 [] [] 1:=by
 refine⟨by omega,λM hM s _=> ?_,λM hM=>(cQ.id sc).of λs _=> ?_⟩<;>(obtain⟨m,rfl⟩:∃m,M=m+1:=⟨M-1,by omega⟩;rfl)
theorem Ty.aas(ar:gS)(sc:List (List UInt8×Nat))(p:Nat)(v:Int):Ty ar sc ⟨0,p,[],v,[]⟩ 1 [] [] 1:=by
 refine⟨by omega,λM hM s _=> ?_,λM hM=>(cQ.id sc).of λs _=> ?_⟩<;>(obtain⟨m,rfl⟩:∃m,M=m+1:=⟨M-1,by omega⟩;rfl)
theorem Ty.paren{ar:gS}(h:Ty ar sc a t D A N)(p:Nat):Ty ar sc ⟨4,p,[],0,[a]⟩ t D A (N+1):=by
 refine⟨h.t2,λM hM s hs=> ?_,λM hM=> ?_⟩
 ·obtain⟨m,rfl⟩:∃m,M=m+1:=⟨M-1,by omega⟩
  exact h.ty m (by omega) s hs
 obtain⟨m,rfl⟩:∃m,M=m+1:=⟨M-1,by omega⟩;exact h.does m (by omega)
theorem Ty.sign{ar:gS}(h:Ty ar sc a t D A N)(p k want res:Nat)(hk:(k=13/\want=1/\res=1)\/(k=14/\want=2/\res=2)):Ty ar sc ⟨k,p,[],0,[a]⟩ res (D++dY t want a.ai) A (N+1):=by
 rcases hk with⟨rfl,rfl,rfl⟩|⟨rfl,rfl,rfl⟩
 ·refine⟨by omega,λM hM s hs=> ?_,λM hM=> ?_⟩
  ·obtain⟨m,rfl⟩:∃m,M=m+1:=⟨M-1,by omega⟩;rfl
  ·obtain⟨m,rfl⟩:∃m,M=m+1:=⟨M-1,by omega⟩
   exact(h.must 1 m (by omega)).of λs _=>rfl
 refine⟨by omega,λM hM s hs=> ?_,λM hM=> ?_⟩
 ·obtain⟨m,rfl⟩:∃m,M=m+1:=⟨M-1,by omega⟩;rfl
 obtain⟨m,rfl⟩:∃m,M=m+1:=⟨M-1,by omega⟩
 exact(h.must 2 m (by omega)).of λs _=>rfl
theorem JJ(ar:gS)(m k:Nat)(hk:7<=k/\k<=12)(l r:Ex)(s:KS):cy ar (m+1) (bin k l r) s=(if k<=8 then 2 else 1,bV (cy ar m) 1 r (bV (cy ar m) 1 l s)):=by
 have:k=7\/k=8\/k=9\/k=10\/k=11\/k=12:=by omega
 rcases this with rfl|rfl|rfl|rfl|rfl|rfl<;>rfl
theorem Ty.bin{ar:gS}{b:Ex}(h:Ty ar sc a t D A N)(h':Ty ar sc b u D' A' N')(k:Nat)(hk:7<=k/\k<=12)(L:Nat)(h1:N+1<=L)(h2:N'+1<=L):
  Ty ar sc (Go.Proofs.YtpmmjkiclngpmaaGreatDoor.bin k a b) (if k<=8 then 2 else 1) ((D++dY t 1 a.ai)++(D'++dY u 1 b.ai)) (A++A') L:=by
 refine⟨by split<;>omega,λM hM s hs=> ?_,λM hM=> ?_⟩
 ·obtain⟨m,rfl⟩:∃m,M=m+1:=⟨M-1,by omega⟩
  rw [JJ ar m k hk]
 obtain⟨m,rfl⟩:∃m,M=m+1:=⟨M-1,by omega⟩
 exact((h.must 1 m (by omega)).comp (h'.must 1 m (by omega))).of λs _=>by rw [JJ ar m k hk]
theorem Ty.if_{ar:gS}{b c:Ex}{v N'':Nat}{D'':List (Nat×Nat)}{A'':List (Nm×Nm)}(h:Ty ar sc a t D A N)(h':Ty ar sc b u D' A' N')(h'':Ty ar sc c v D'' A'' N'')(p L:Nat)(h1:N+1<=L)(h2:N'+1<=L)(h3:N''+1<=L):
  Ty ar sc ⟨5,p,[],0,[a,b,c]⟩ u ((D++dY t 2 a.ai)++D'++(D''++dY v u c.ai)) (A++A'++A'') L:=by
 refine⟨h'.t2,λM hM s hs=> ?_,λM hM=> ?_⟩
 ·obtain⟨m,rfl⟩:∃m,M=m+1:=⟨M-1,by omega⟩
  exact h'.ty m (by omega) _ ((h.must 2 m (by omega)).az s hs)
 obtain⟨m,rfl⟩:∃m,M=m+1:=⟨M-1,by omega⟩
 refine(((h.must 2 m (by omega)).comp (h'.does m (by omega))).comp (h''.must u m (by omega))).of λs hs=> ?_
 show bV (cy ar m) _ c _=_;rw [h'.ty m (by omega) _ ((h.must 2 m (by omega)).az s hs)]
theorem Ty.let_{ar:gS}{b:Ex}(h:Ty ar sc a t D A N)(h':Ty ar (sc++ [(ag,t)]) b u D' A' N')(p L:Nat)(h1:N+1<=L)(h2:N'+1<=L):
  Ty ar sc ⟨6,p,ag,0,[a,b]⟩ u (D++D') (A++A') L:=by
 have key:∀m,N<=m->N'<=m->∀s:KS,s.az=sc->cy ar (m+1) ⟨6,p,ag,0,[a,b]⟩ s=(u,{(cy ar m b {(cy ar m a s).2 with az:=sc++ [(ag,t)]}).2 with az:=sc}):=by
  intro m hm Ve s hs;have e1:=h.ty m hm s hs
  have e2:(cy ar m a s).2.az=sc:=by rw [j7,hs]
  show yX (cy ar m) ag a b s=_;unfold yX;rw [e1,e2,hs];have e3:=h'.ty m Ve {(cy ar m a s).2 with az:=sc++ [(ag,t)]} rfl
  have e4:(cy ar m b {(cy ar m a s).2 with az:=sc++ [(ag,t)]}).2.az=sc++ [(ag,t)]:=by rw [j7]
  rw [e3,e4];simp
 refine⟨h'.t2,λM hM s hs=> ?_,λM hM=> ?_⟩
 ·obtain⟨m,rfl⟩:∃m,M=m+1:=⟨M-1,by omega⟩
  rw [key m (by omega) (by omega) s hs]
 obtain⟨m,rfl⟩:∃m,M=m+1:=⟨M-1,by omega⟩;refine⟨λs hs=>by rw [key m (by omega) (by omega) s hs],λG s hs hb=> ?_,λs hs x=> ?_⟩
 ·rw [key m (by omega) (by omega) s hs]
  have q1:=(h.does m (by omega)).SI G s hs hb;have q2:=(h'.does m (by omega)).SI (G++D) {(cy ar m a s).2 with az:=sc++ [(ag,t)]} rfl q1;rw [<-List.append_assoc];exact q2
 rw [key m (by omega) (by omega) s hs];have q1:=(h.does m (by omega)).keys s hs x;have q2:=(h'.does m (by omega)).keys {(cy ar m a s).2 with az:=sc++ [(ag,t)]} rfl x;rw [List.mem_append,<-or_assoc,<-q1];exact q2
theorem Ty.var{ar:gS}(ht:t<=2)(h:jW ag sc.reverse=some t):Ty ar sc ⟨2,p,ag,0,[]⟩ t [] [] 1:=by
 have key:∀m (s:KS),s.az=sc->cy ar (m+1) ⟨2,p,ag,0,[]⟩ s=(t,s):=λm s hs=>by
  show sN ⟨2,p,ag,0,[]⟩ s=_;unfold sN;rw [hs];simp only [h]
 refine⟨ht,λM hM s hs=> ?_,λM hM=>(cQ.id sc).of λs hs=> ?_⟩<;>(obtain⟨m,rfl⟩:∃m,M=m+1:=⟨M-1,by omega⟩;rw [key m s hs])
theorem Ty.unk{ar:gS}(h:jW ag sc.reverse=none):Ty ar sc ⟨2,p,ag,0,[]⟩ 0 [(3,p)] [] 1:=by
 have key:∀m (s:KS),s.az=sc->cy ar (m+1) ⟨2,p,ag,0,[]⟩ s=(0,s.tell 3 p):=λm s hs=>by
  show sN ⟨2,p,ag,0,[]⟩ s=_;unfold sN;rw [hs];simp only [h]
 refine⟨by omega,λM hM s hs=> ?_,λM hM=>(cQ.tell sc 3 p (by omega)).of λs hs=> ?_⟩<;>(obtain⟨m,rfl⟩:∃m,M=m+1:=⟨M-1,by omega⟩;rw [key m s hs])
def rF(g:Ex->KS->Nat×KS)(ps:List Nat):Nat->List Ex->KS->KS
 |_,[],s=>s
 |j,e::r,s=>rF g ps (j+1) r (bV g (ps.getD j 0) e s)
theorem zR(g:Ex->KS->Nat×KS)(ps:List Nat)(j:Nat)(hj:ps.length<=j)(l:List Ex)(s:KS):eT g 0 l s=rF g ps j l s:=by
 induction l generalizing j s with
 |nil=>rfl
 |cons e r ih=>
  show eT g 0 r (bV g 0 e s)=rF g ps (j+1) r (bV g (ps.getD j 0) e s);rw [show ps.getD j 0=0 by simp [List.getD,hj],ih (j+1) (by omega)]
theorem F8(g:Ex->KS->Nat×KS)(ps:List Nat)(j:Nat)(l:List Ex)(s:KS):iU g l (ps.drop j) s=rF g ps j l s:=by
 induction l generalizing j s with
 |nil=>cases ps.drop j<;>rfl
 |cons e r ih=>
  by_cases hj:j<ps.length
  ·rw [List.drop_eq_getElem_cons hj]
   show iU g r (ps.drop (j+1)) (bV g ps[j] e s)=rF g ps (j+1) r (bV g (ps.getD j 0) e s);rw [ih,show ps.getD j 0=ps[j] by simp [List.getD,hj]]
  ·rw [List.drop_eq_nil_of_le (by omega)]
   exact zR g ps j (by omega) (e::r) s
theorem Io(g:Ex->KS->Nat×KS)(ps:List Nat)(j:Nat)(l:List Ex)(e:Ex)(s:KS):rF g ps j (l++ [e]) s=bV g (ps.getD (j+l.length) 0) e (rF g ps j l s):=by
 induction l generalizing j s with
 |nil=>rfl
 |cons x r ih=>
  show rF g ps (j+1) (r++ [e]) _=_;rw [ih,List.length_cons,show j+1+r.length=j+(r.length+1) by omega]
  rfl
def zS(ar:gS)(sc:List (List UInt8×Nat))(ps:List Nat)(l:List Ex)(D:List (Nat×Nat))(A:List (Nm×Nm))(N:Nat):Prop:=∀M,N<=M->cQ (rF (cy ar M) ps 0 l) sc D A
theorem zS.snoc{ar:gS}{l:List Ex}(h:zS ar sc ps l D A N)(he:Ty ar sc e t D' A' N')(L:Nat)(h1:N<=L)(h2:N'<=L):
  zS ar sc ps (l++ [e]) (D++(D'++dY t (ps.getD l.length 0) e.ai)) (A++A') L:=λM hM=>
 ((h M (by omega)).comp (he.must (ps.getD l.length 0) M (by omega))).of λs _=>by rw [Io,Nat.zero_add]
theorem Ty.aau{ar:gS}{l:List Ex}(hs:ar.sig ag=none)(h:zS ar sc [] l D A N):Ty ar sc ⟨3,p,ag,0,l⟩ 0 ([(3,p)]++D) ((ar.use ag).map fg++A) (N+1):=by
 have key:∀m (s:KS),cy ar (m+1) ⟨3,p,ag,0,l⟩ s=(0,rF (cy ar m) [] 0 l ((s.pS (ar.use ag)).tell 3 p)):=λm s=>by
  show lZ ar (cy ar m) ⟨3,p,ag,0,l⟩ s=_;unfold lZ;simp only [hs];rw [zR (cy ar m) [] 0 (by simp)]
 refine⟨by omega,λM hM s _=> ?_,λM hM=> ?_⟩
 ·obtain⟨m,rfl⟩:∃m,M=m+1:=⟨M-1,by omega⟩
  rw [key]
 obtain⟨m,rfl⟩:∃m,M=m+1:=⟨M-1,by omega⟩;exact((((cQ.pS sc (ar.use ag)).comp (cQ.tell sc 3 p (by omega))).comp (h m (by omega))).of λs _=>by rw [key]).perm (λx=>by simp) (λx=>by simp)
theorem Ty.Ur{ar:gS}{p N r:Nat}{l:List Ex}(hs:ar.sig ag=some (ps,r))(hr:r<=2)(h:zS ar sc ps l D A N):
  Ty ar sc ⟨3,p,ag,0,l⟩ r (D++if l.length=ps.length then []else [(7,p)]) ((ar.use ag).map fg++A) (N+1):=by
 have key:∀m (s:KS),cy ar (m+1) ⟨3,p,ag,0,l⟩ s=(r,rF (cy ar m) ps 0 l (if l.length=ps.length then s.pS (ar.use ag)else(s.pS (ar.use ag)).tell 7 p)):=λm s=>by
  show lZ ar (cy ar m) ⟨3,p,ag,0,l⟩ s=_;unfold lZ;simp only [hs];rw [<-F8,List.drop_zero]
 refine⟨hr,λM hM s _=> ?_,λM hM=> ?_⟩
 ·obtain⟨m,rfl⟩:∃m,M=m+1:=⟨M-1,by omega⟩
  rw [key]
 obtain⟨m,rfl⟩:∃m,M=m+1:=⟨M-1,by omega⟩
 by_cases hl:l.length=ps.length
 ·exact(((cQ.pS sc (ar.use ag)).comp (h m (by omega))).of λs _=>by rw [key,if_pos hl]).perm (λx=>by simp [hl]) (λx=>by simp)
 exact((((cQ.pS sc (ar.use ag)).comp (cQ.tell sc 7 p (by omega))).comp (h m (by omega))).of λs _=>by rw [key,if_neg hl]).perm (λx=>by simp [hl,or_comm]) (λx=>by simp)
def rG(t:Nat):Nat:=if t=1 then 105 else if t=2 then 98 else 97
def fj(sc:List (List UInt8×Nat)):List Value:=sc.reverse.flatMap λx=> [.string ⟨x.1.toArray⟩,.int .u8 (rG x.2),.int .i64 0]
structure Vs (w:World) (vv:Value) (sc:List (List UInt8×Nat)):Prop where
 row:w.ownsRow 0 323 3 vv sc.length (fj sc)
 t2:∀x∈sc,x.2<=2
 nil:sc= []->vv=.slice none 0 0
theorem yo{t:TypeId}{size:Nat}(h:w.ownsRow b t size v n xs)(hf:fX lo w w')(h1:t≠318)(h2:t≠253)(h3:t≠185):w'.ownsRow b t size v n xs:=
 aM h λg e=>by
  rcases h.2 with⟨rfl,_⟩|⟨g',cap,aU,rfl,_,hc,_⟩
  ·simp [Value.ownBlock]at e
  ·simp [Value.ownBlock]at e
   subst e;rw [hf.typed hc h1 h2 h3,hc]
theorem Vs.fr(h:Vs w vv sc)(hf:fX lo w w'):Vs w' vv sc:=⟨yo h.row hf (by decide) (by decide) (by decide),h.t2,h.nil⟩
structure G1 (X:CX) (ar:gS):Prop where
 last:cG X.me.ws
 aZ:∀w∈X.me.ws,w.aL=2->w.aX≠ []/\w.aX≠ [116,114,117,101]/\w.aX≠ [102,97,108,115,101]/\w.aX≠ [45]/\w.aX≠ [33]/\w.aX≠ [40]
 len:X.me.ws.length<=700
 nN:X.me.aq.length<=700
 SJ:SH X.all
 aav:∀n,n≠ []->ar.sig n=none->∀K,(eO X n K).2=none
 aaw:∀n,n≠ []->∀ps r,ar.sig n=some (ps,r)->(∀t∈ps,t=1\/t=2)/\(r=1\/r=2)/\∀K,∃f,(eO X n K).2=some f/\f.aef=ps.map sT/\f.aL=sT r
 keys:∀n,n≠ []->∀K x,x∈(eO X n K).1↔x∈K\/x∈(ar.use n).map fg
def WU(X:CX)(ar:gS)(sc:List (List UInt8×Nat))(F:List (Nat×Nat))(K:List (Nm×Nm))(st:PS)(r:Ex×PS)(w:World)(e:Ending)(w':World):Prop:=
 ∃t D A K',e=.returned (.int .u8 (rG t))/\fX X.lo w w'/\Ck X r.2.i (F++D) (eQ X.all K') w'/\Ty ar sc r.1 t D A (r.2.i-st.i)/\st.i<r.2.i/\r.2.i<X.me.ws.length/\(∀x,x∈K'↔x∈K\/x∈A)/\(D.length<=3*(r.2.i-st.i)/\K'.length<=K.length+700*(r.2.i-st.i))/\r.1.ai=(st.aU X.me.ws).ai
structure zT (X:CX) (m:Nat) (sc:List (List UInt8×Nat)) (vv:Value) (st:PS) (F:List (Nat×Nat)) (K:List (Nm×Nm)) (r:Ex×PS) (w:World):Prop where
 ck:Ck X st.i F (eQ X.all K) w
 vs:Vs w vv sc
 sc:sc.length<=700+st.i
 f0:st.aH=false
 f1:r.2.aH=false
 lt:st.i<X.me.ws.length
 rem:st.rem X.me.ws<m
 bf:F.length+3*(X.me.ws.length-st.i)<=900000000
 bk:K.length+700*(X.me.ws.length-st.i)<=900000000
def Dj(X:CX)(ar:gS)(m:Nat)(Yr:Int)(R:PS->Ex×PS):Prop:=
 ∀sc vv st F K w,zT X m sc vv st F K (R st) w->Calls prog 240 #[.pointer (some ⟨X.cb,0,none⟩),.int .i64 Yr,vv] w (WU X ar sc F K st (R st) w)
def acf(X:CX)(ar:gS)(sc:List (List UInt8×Nat))(F:List (Nat×Nat))(K:List (Nm×Nm))(st:PS)(r:Ex×PS)(want:Nat)(w:World)(e:Ending)(w':World):Prop:=
 ∃t D A K',e=.returned (.int .u8 (rG t))/\fX X.lo w w'/\Ck X r.2.i (F++(D++dY t want r.1.ai)) (eQ X.all K') w'/\Ty ar sc r.1 t D A (r.2.i-st.i)/\st.i<r.2.i/\r.2.i<X.me.ws.length/\(∀x,x∈K'↔x∈K\/x∈A)/\(D.length<=3*(r.2.i-st.i)/\K'.length<=K.length+700*(r.2.i-st.i))/\r.1.ai=(st.aU X.me.ws).ai
theorem bM(t want p:Nat):(dY t want p).length<=1:=by unfold dY;split<;>simp
theorem zT.drewN{r:Ex×PS}(h:zT X m sc vv st F K r w)(n:Nat):zT X m sc vv st F K r (w.drewN n):=
 ⟨h.ck.drewN n,h.vs.fr ((fX.refl X.lo w).drewN n),h.sc,h.f0,h.f1,h.lt,h.rem,h.bf,h.bk⟩
theorem Ck.ar(h:Ck X i F U w)(hi:i<X.me.ws.length):
  w.cell? ⟨X.cb,1,none⟩=some (.slice (some ⟨X.g,0,none⟩) X.me.ws.length X.cap)/\w.cell? ⟨X.cb,6,none⟩=some (.int .i64 i)/\X.cb<w.heap.size/\(∀o,w.frozen? ⟨X.cb,o,none⟩=false)/\
   w.cell? ⟨X.g,i*3,none⟩=some (.int .u8 (dV X.me.ws[i]).aeh)/\w.cell? ⟨X.g,i*3+1,none⟩=some (.string ⟨X.me.ws[i].aX.toArray⟩)/\w.cell? ⟨X.g,i*3+2,none⟩=some (.int .i64 X.me.ws[i].ai)/\X.g<w.heap.size/\X.me.ws.length<=maxLen:=by
 obtain⟨fo,fc,uo,uc,hb,_,_⟩:=h.mem;have hr:=h.row.1;obtain⟨q0,q1,q2⟩:=hr.word i (by rw [List.length_map];exact hi);have hs:=hr.small;rw [List.getElem_map]at q0 q1 q2;rw [List.length_map]at hs;refine⟨by rw [ae hb];rfl,by rw [ae hb];rfl,af hb,aj hb,q0,q1,q2,hr.lt,?_⟩;unfold maxLen;omega
theorem dE{ar:gS}{Yr:Int}(hE:Dj X ar m Yr R)(want:Nat)(hw:want<=2)(kw:Int)(hk:kw=rG want)(h:zT X m sc vv st F K (R st) w):
    Calls prog 189 #[.pointer (some ⟨X.cb,0,none⟩),.int .i64 Yr,.int .u8 kw,vv] w (acf X ar sc F K st (R st) want w):=by
  have hi:=h.lt;obtain⟨c1,c6,cl,cf,w0,w1,w2,gl,gO⟩:=h.ck.ar hi
  have uV:(st.i:Int)<(X.me.ws.length:Int):=by omega
  have HI:=aa h;have HE:=aa hE;have pq:=aa (show(st.aU X.me.ws).ai=X.me.ws[st.i].ai by unfold PS.aU;simp [List.getD,hi]);have HKw:=aa hk;clear h hE hk;generalize X.me.ws[st.i]=x at*
  go_enter func189,ntmps189
  go_wp2_with fail
  go_quiet (fail)
  go_wp2_with fail
  refine(HE.o sc vv st F K _ (HI.o.drewN nq)).mono ?_;rintro e w3 ⟨t,D,A,K',rfl,hf3,hc3,xd,kP,iY,D6,mF,hpl⟩;have B5:=aa (((fX.refl X.lo w).drewN nq).trans hf3);have jl:=aa hc3;have pL:=aa xd;have nI:=aa D6;have gQ:=aa mF;have sH:=aa hpl;have VX:=xd.t2
  have Yv:(F++D).length<=1000000000:=by have:=HI.o.bf;have:=mF.1;rw [List.length_append];omega
  have G0:=aa Yv;clear hf3 hc3 xd D6 mF hpl c1 c6 cl cf w0 w1 w2 gl Yv;have L1:=HKw.o
  rcases (show t=0\/t=1\/t=2 by omega)with rfl|rfl|rfl<;>rcases (show want=0\/want=1\/want=2 by omega)with rfl|rfl|rfl
  all_goals
    have e0:((rG 0:Nat):Int)=97:=rfl;have e1:((rG 1:Nat):Int)=105:=rfl;have e2:((rG 2:Nat):Int)=98:=rfl;simp only [e0,e1,e2]at L1⊢;subst L1;clear e0 e1 e2
    first
    | (go_wp2
       go_ret
       exact⟨_,D,A,K',rfl,B5.o,by simpa [dY,o6]using jl.o,pL.o,kP,iY,nI.o,gQ.o,sH.o⟩)
    | (go_wp2_with fail
       refine(je jl.o 8 x.ai G0.o).mono ?_;rintro e w4 ⟨rfl,nR,j'⟩;have lQ:=aa (B5.o.trans nR);have ly:=aa j';clear nR j';go_wp2;go_ret
       exact⟨_,D,A,K',rfl,lQ.o,by have:=ly.o;rw [<-pq.o,<-sH.o]at this;simpa [dY,o6]using this,pL.o,kP,iY,nI.o,gQ.o,sH.o⟩)
theorem nA{ws:List Wd}{m:Nat}{R:PS->Ex×PS}(hG:dT ws m R)(iB:List (List UInt8)):∀(n:Nat) (l:Ex) (s:PS),s.i<ws.length->s.rem ws<m->(dh ws R iB n l s).2.aH=false->s.aH=false
 |0,l,s,_,_,h=>h
 |n+1,l,s,hi,hm,h=>by
  rcases hat:s.aN ws iB with _|_
  ·rw [pB _ _ _ _ _ hat]at h;exact h
  ·rw [dh,hat,if_pos rfl]at h
   have hg:=hG (s.next ws) (PS.cB hi) (ey hm (PS.cj hi));have:=nA hG iB n _ _ hg.1 (ey hm (Nat.le_trans (PS.cj hi) hg.2.1)) h;exact(hg.2.2 this).1
theorem qq{iB:List (List UInt8)}{l:Ex}(hat:s.aN ws iB=true):dh ws R iB (n+1) l s=dh ws R iB n (bin (bJ (s.aU ws).aX) l (R (s.next ws)).1) (R (s.next ws)).2:=by
 rw [dh,hat,if_pos rfl];rfl
theorem mz{a:List UInt8}(h:st.aN ws [a]=true):(st.aU ws).aX=a:=by
 unfold PS.aN at h;simp at h;exact h.2
theorem BT{t:Nat}(h:t≠2):(((rG t:Nat):Int)==98)=false:=by
 unfold rG
 by_cases h1:t=1
 ·simp [h1]
 simp [h1,h]
theorem pE(h:t≠2)(h2:t<=2):dY t 1 p= []:=by
 rcases (show t=0\/t=1 by omega)with rfl|rfl<;>rfl
theorem Ip{ar:gS}(hE:Dj X ar m 3 R)(hG:dT X.me.ws m R)(hW:G1 X ar):Dj X ar m 2 (cL X.me.ws R [[42],[47]]):=by
 intro sc vv st F K w h;have hi:=h.lt
 have uV:(st.i:Int)<(X.me.ws.length:Int):=by omega
 obtain⟨c1,c6,cl,cf,w0,w1,w2,gl,gO⟩:=h.ck.ar hi;have hg:=hG st hi h.rem;have bp:(R st).2.aH=false:=nA hG [[42],[47]] X.me.ws.length (R st).1 (R st).2 hg.1 (ey h.rem hg.2.1) h.f1;have HI:=aa h;have qE:=aa (show zT X m sc vv st F K (R st) w from⟨h.ck,h.vs,h.sc,h.f0,bp,h.lt,h.rem,h.bf,h.bk⟩);have HE:=aa hE;have HG:=aa hG;have HW:=aa hW;have fJ:=aa h.f1;have pq:=aa (show(st.aU X.me.ws).ai=X.me.ws[st.i].ai by unfold PS.aU;simp [List.getD,hi]);have WV:=aa bp;clear h hE hG hW hg bp;generalize X.me.ws[st.i]=x at*
 go_enter func240,ntmps240
 go_wp2_with fail
 go_quiet (fail)
 go_wp2_with fail
 refine(HE.o sc vv st F K _ (qE.o.drewN nq)).mono ?_;rintro e w3 ⟨t,D,A,K',rfl,hf3,hc3,xd,kP,iY,D6,mF,hpl⟩;have B5:=aa (((fX.refl X.lo w).drewN nq).trans hf3);have jl:=aa hc3;have pL:=aa xd;have nI:=aa D6;have gQ:=aa mF;have sH:=aa hpl;clear hf3 hc3 xd D6 mF hpl c1 c6 cl cf w0 w1 w2 gl
 go_wp2_with fail
 go_loopg [10] X.me.ws.length (λn v10 wr=>∃(l:Ex) (s:PS) (t:Nat) (D:List (Nat×Nat)) (A:List (Nm×Nm)) (K':List (Nm×Nm)),v10=.int .u8 (rG t)/\Hy (cL X.me.ws R [[42],[47]] st=dh X.me.ws R [[42],[47]] n l s)/\s.rem X.me.ws<n/\Hy (fX X.lo w wr)/\Hy (Ck X s.i (F++D) (eQ X.all K') wr)/\
  Hy (Ty ar sc l t D A (s.i-st.i))/\st.i<s.i/\s.i<X.me.ws.length/\Hy (∀x,x∈K'↔x∈K\/x∈A)/\Hy (D.length<=3*(s.i-st.i)/\K'.length<=K.length+700*(s.i-st.i))/\Hy (l.ai=(st.aU X.me.ws).ai)/\Hy (s.aH=false))
 case atStart=>exact⟨(R st).1,(R st).2,t,D,A,K',rfl,aa rfl,by simp only [PS.rem];omega,B5,jl,pL,kP,iY,nI,gQ,sH,WV⟩
 clear B5 jl pL nI gQ sH kP iY;obtain⟨l,s,t,D,A,K',rfl,HC,jh,lO,qF,pL,kP,iY,nI,gQ,mA,km⟩:=hrel
 rcases ha:s.aN X.me.ws [[42]]with _|_
 ·rcases hb:s.aN X.me.ws [[47]]with _|_
  ·have eJ:=aa (show cL X.me.ws R [[42],[47]] st=(l,s) by rw [HC.o];exact pB _ _ _ _ _ (by rw [cY,ha,hb];rfl))
   have ea:=ha;have eb:=hb;rw [cP]at ea eb
   go_wp2_with fail
   refine(cE qF.o iY [42]).mono ?_;rintro e w4 ⟨rfl,nR,j'⟩;rw [ea]at j'⊢;have lQ:=aa (lO.o.trans nR);have ly:=aa (show Ck X s.i (F++D) (eQ X.all K') w4 from j');clear nR j' ea
   go_wp2_with fail
   refine(cE ly.o iY [47]).mono ?_;rintro e w5 ⟨rfl,ma,iO⟩;rw [eb]at iO⊢;have nB:=aa (lQ.o.trans ma);have o_:=aa (show Ck X s.i (F++D) (eQ X.all K') w5 from iO);clear ma iO eb;go_wp2;go_ret;rw [eJ.o];exact⟨t,D,A,K',rfl,nB.o,o_.o,pL.o,kP,iY,nI.o,gQ.o,mA.o⟩
  ·have ui:=PS.bX HW.o.last hb iY
   have ea:=ha;have eb:=hb;rw [cP]at ea eb
   go_wp2_with fail
   refine(cE qF.o iY [42]).mono ?_;rintro e w4' ⟨rfl,nR,j'⟩;rw [ea]at j'⊢;have F9:=aa (lO.o.trans nR);have FA:=aa (show Ck X s.i (F++D) (eQ X.all K') w4' from j');clear nR j' ea
   go_wp2_with fail
   refine(cE FA.o iY [47]).mono ?_;rintro e w4 ⟨rfl,ma,iO⟩;rw [eb]at iO⊢;have lQ:=aa (F9.o.trans ma);have ly:=aa (show Ck X (s.i+1) (F++D) (eQ X.all K') w4 from iO);clear ma iO eb F9 FA;have cC:=aa (show(s.next X.me.ws).i=s.i+1 from(by show min (s.i+1) (X.me.ws.length-1)=_;omega));have nC:=aa (λn=>qq (n:=n) (R:=R) (l:=l) (show s.aN X.me.ws [[42],[47]]=true by rw [cY,ha,hb];rfl));have mG:=aa (mz hb)
   have sX:(s.next X.me.ws).rem X.me.ws<gk-1:=by have:=cC.o;simp only [PS.rem]at jh⊢;omega
   have P8:=aa (HG.o (s.next X.me.ws) (by rw [cC.o];omega) (by have:=cC.o;have:=HI.o.rem;simp only [PS.rem]at this⊢;omega))
   have iD:=aa (show(R (s.next X.me.ws)).2.aH=false by
    obtain⟨n,hn⟩:∃n,gk=n+1:=⟨gk-1,by omega⟩;have q:=fJ.o;rw [HC.o,hn,nC.o n]at q
    exact nA HG.o [[42],[47]] n _ _ P8.o.1 (ey HI.o.rem (by have:=P8.o.2.1;have:=cC.o;omega)) q)
   have HVn:=aa (HI.o.vs.fr lQ.o)
   rcases (show t=2\/t≠2 by omega)with rfl|ht
   ·go_wp2_with fail
    refine(je ly.o 8 x.ai (by have:=HI.o.bf;have:=gQ.o.1;rw [List.length_append];omega)).mono ?_;rintro e w5 ⟨rfl,ma,iO⟩;have nB:=aa (lQ.o.trans ma);have o_:=aa (show Ck X (s.next X.me.ws).i ((F++D)++dY 2 1 l.ai) (eQ X.all K') w5 by rw [cC.o,mA.o,pq.o];exact iO);clear ma iO ly lQ
    go_wp2_with fail
    refine(dE HE.o 1 (by omega) 105 rfl (sc:=sc) (vv:=vv) (st:=s.next X.me.ws) (F:=(F++D)++dY 2 1 l.ai) (K:=K') ⟨o_.o,HI.o.vs.fr nB.o,by have:=HI.o.sc;have:=cC.o;omega,km.o,iD.o,by have:=cC.o;omega,by have:=cC.o;have:=HI.o.rem;simp only [PS.rem]at this⊢;omega,by have:=HI.o.bf;have:=gQ.o.1;have:=bM 2 1 l.ai;have:=cC.o;simp only [List.length_append];omega,by have:=HI.o.bk;have:=gQ.o.2;have:=cC.o;omega⟩).mono ?_;rintro e w6 ⟨u,D2,A2,K2,rfl,mg,ki,eV,jI,oL,fy,iV,kd⟩;have vQ:=aa (nB.o.trans mg);have nO:=aa (show Ck X (R (s.next X.me.ws)).2.i (F++((D++dY 2 1 l.ai)++(D2++dY u 1 (R (s.next X.me.ws)).1.ai))) (eQ X.all K2) w6 by have:=ki;simpa only [List.append_assoc]using this);have vP:=aa (Ty.bin pL.o eV (bJ (s.aU X.me.ws).aX) (by rw [mG.o];decide) ((R (s.next X.me.ws)).2.i-st.i) (by have:=cC.o;omega) (by have:=cC.o;omega));have tB:=aa (show ∀y,y∈K2↔y∈K\/y∈A++A2 from λy=>by rw [fy y,nI.o y,List.mem_append,or_assoc])
    have fY:=aa (show((D++dY 2 1 l.ai)++(D2++dY u 1 (R (s.next X.me.ws)).1.ai)).length<=3*((R (s.next X.me.ws)).2.i-st.i)/\K2.length<=K.length+700*((R (s.next X.me.ws)).2.i-st.i) by
     have:=gQ.o;have:=bM 2 1 l.ai;have:=bM u 1 (R (s.next X.me.ws)).1.ai;have:=cC.o;simp only [List.length_append];omega)
    have js:(R (s.next X.me.ws)).2.i<X.me.ws.length/\s.i+1<(R (s.next X.me.ws)).2.i:=by have:=cC.o;omega
    have Ee:=aa (show cL X.me.ws R [[42],[47]] st=dh X.me.ws R [[42],[47]] (gk-1) (bin (bJ (s.aU X.me.ws).aX) l (R (s.next X.me.ws)).1) (R (s.next X.me.ws)).2 by
     obtain⟨n,hn⟩:∃n,gk=n+1:=⟨gk-1,by omega⟩
     rw [HC.o,hn,nC.o n];rfl)
    clear mg ki eV jI oL fy iV kd;go_wp2
    go_roundg (gk-1)
    case measure=>omega
    case rel=>exact⟨_,_,1,_,_,K2,rfl,Ee,by simp only [PS.rem]at sX jh⊢;have:=js;have:=cC.o;omega,vQ,nO,by have h6:=vP.o;rw [mG.o]at h6;exact aa (by rw [mG.o];exact h6),by omega,js.1,tB,fY,mA,iD⟩
   ·have hkb:=BT ht
    have o_:=aa (show Ck X (s.next X.me.ws).i ((F++D)++dY t 1 l.ai) (eQ X.all K') w4 by rw [cC.o,pE ht (pL.o.t2)];simpa using ly.o);have nB:=aa lQ.o;have HNt:=aa ht;clear ly lQ ht;generalize xZ:rG t=kk at*;have WW:=aa xZ;clear xZ
    go_wp2_with fail
    refine(dE HE.o 1 (by omega) 105 rfl (sc:=sc) (vv:=vv) (st:=s.next X.me.ws) (F:=(F++D)++dY t 1 l.ai) (K:=K') ⟨o_.o,HI.o.vs.fr nB.o,by have:=HI.o.sc;have:=cC.o;omega,km.o,iD.o,by have:=cC.o;omega,by have:=cC.o;have:=HI.o.rem;simp only [PS.rem]at this⊢;omega,by have:=HI.o.bf;have:=gQ.o.1;have:=bM t 1 l.ai;have:=cC.o;simp only [List.length_append];omega,by have:=HI.o.bk;have:=gQ.o.2;have:=cC.o;omega⟩).mono ?_;rintro e w6 ⟨u,D2,A2,K2,rfl,mg,ki,eV,jI,oL,fy,iV,kd⟩;have vQ:=aa (nB.o.trans mg);have nO:=aa (show Ck X (R (s.next X.me.ws)).2.i (F++((D++dY t 1 l.ai)++(D2++dY u 1 (R (s.next X.me.ws)).1.ai))) (eQ X.all K2) w6 by have:=ki;simpa only [List.append_assoc]using this);have vP:=aa (Ty.bin pL.o eV (bJ (s.aU X.me.ws).aX) (by rw [mG.o];decide) ((R (s.next X.me.ws)).2.i-st.i) (by have:=cC.o;omega) (by have:=cC.o;omega));have tB:=aa (show ∀y,y∈K2↔y∈K\/y∈A++A2 from λy=>by rw [fy y,nI.o y,List.mem_append,or_assoc])
    have fY:=aa (show((D++dY t 1 l.ai)++(D2++dY u 1 (R (s.next X.me.ws)).1.ai)).length<=3*((R (s.next X.me.ws)).2.i-st.i)/\K2.length<=K.length+700*((R (s.next X.me.ws)).2.i-st.i) by
     have:=gQ.o;have:=bM t 1 l.ai;have:=bM u 1 (R (s.next X.me.ws)).1.ai;have:=cC.o;simp only [List.length_append];omega)
    have js:(R (s.next X.me.ws)).2.i<X.me.ws.length/\s.i+1<(R (s.next X.me.ws)).2.i:=by have:=cC.o;omega
    have Ee:=aa (show cL X.me.ws R [[42],[47]] st=dh X.me.ws R [[42],[47]] (gk-1) (bin (bJ (s.aU X.me.ws).aX) l (R (s.next X.me.ws)).1) (R (s.next X.me.ws)).2 by
     obtain⟨n,hn⟩:∃n,gk=n+1:=⟨gk-1,by omega⟩
     rw [HC.o,hn,nC.o n];rfl)
    clear mg ki eV jI oL fy iV kd;go_wp2
    go_roundg (gk-1)
    case measure=>omega
    case rel=>exact⟨_,_,1,_,_,K2,rfl,Ee,by simp only [PS.rem]at sX jh⊢;have:=js;have:=cC.o;omega,vQ,nO,by have h6:=vP.o;rw [mG.o]at h6;exact aa (by rw [mG.o];exact h6),by omega,js.1,tB,fY,mA,iD⟩
 have ui:=PS.bX HW.o.last ha iY;have ea:=ha;rw [cP]at ea
 go_wp2_with fail
 refine(cE qF.o iY [42]).mono ?_;rintro e w4 ⟨rfl,nR,j'⟩;rw [ea]at j'⊢;have lQ:=aa (lO.o.trans nR);have ly:=aa (show Ck X (s.i+1) (F++D) (eQ X.all K') w4 from j');clear nR j' ea;have cC:=aa (show(s.next X.me.ws).i=s.i+1 from(by show min (s.i+1) (X.me.ws.length-1)=_;omega));have nC:=aa (λn=>qq (n:=n) (R:=R) (l:=l) (show s.aN X.me.ws [[42],[47]]=true by rw [cY,ha];rfl));have mG:=aa (mz ha)
 have sX:(s.next X.me.ws).rem X.me.ws<gk-1:=by have:=cC.o;simp only [PS.rem]at jh⊢;omega
 have P8:=aa (HG.o (s.next X.me.ws) (by rw [cC.o];omega) (by have:=cC.o;have:=HI.o.rem;simp only [PS.rem]at this⊢;omega))
 have iD:=aa (show(R (s.next X.me.ws)).2.aH=false by
  obtain⟨n,hn⟩:∃n,gk=n+1:=⟨gk-1,by omega⟩;have q:=fJ.o;rw [HC.o,hn,nC.o n]at q
  exact nA HG.o [[42],[47]] n _ _ P8.o.1 (ey HI.o.rem (by have:=P8.o.2.1;have:=cC.o;omega)) q)
 have HVn:=aa (HI.o.vs.fr lQ.o)
 rcases (show t=2\/t≠2 by omega)with rfl|ht
 ·go_wp2_with fail
  refine(je ly.o 8 x.ai (by have:=HI.o.bf;have:=gQ.o.1;rw [List.length_append];omega)).mono ?_;rintro e w5 ⟨rfl,ma,iO⟩;have nB:=aa (lQ.o.trans ma);have o_:=aa (show Ck X (s.next X.me.ws).i ((F++D)++dY 2 1 l.ai) (eQ X.all K') w5 by rw [cC.o,mA.o,pq.o];exact iO);clear ma iO ly lQ
  go_wp2_with fail
  refine(dE HE.o 1 (by omega) 105 rfl (sc:=sc) (vv:=vv) (st:=s.next X.me.ws) (F:=(F++D)++dY 2 1 l.ai) (K:=K') ⟨o_.o,HI.o.vs.fr nB.o,by have:=HI.o.sc;have:=cC.o;omega,km.o,iD.o,by have:=cC.o;omega,by have:=cC.o;have:=HI.o.rem;simp only [PS.rem]at this⊢;omega,by have:=HI.o.bf;have:=gQ.o.1;have:=bM 2 1 l.ai;have:=cC.o;simp only [List.length_append];omega,by have:=HI.o.bk;have:=gQ.o.2;have:=cC.o;omega⟩).mono ?_;rintro e w6 ⟨u,D2,A2,K2,rfl,mg,ki,eV,jI,oL,fy,iV,kd⟩;have vQ:=aa (nB.o.trans mg);have nO:=aa (show Ck X (R (s.next X.me.ws)).2.i (F++((D++dY 2 1 l.ai)++(D2++dY u 1 (R (s.next X.me.ws)).1.ai))) (eQ X.all K2) w6 by have:=ki;simpa only [List.append_assoc]using this);have vP:=aa (Ty.bin pL.o eV (bJ (s.aU X.me.ws).aX) (by rw [mG.o];decide) ((R (s.next X.me.ws)).2.i-st.i) (by have:=cC.o;omega) (by have:=cC.o;omega));have tB:=aa (show ∀y,y∈K2↔y∈K\/y∈A++A2 from λy=>by rw [fy y,nI.o y,List.mem_append,or_assoc])
  have fY:=aa (show((D++dY 2 1 l.ai)++(D2++dY u 1 (R (s.next X.me.ws)).1.ai)).length<=3*((R (s.next X.me.ws)).2.i-st.i)/\K2.length<=K.length+700*((R (s.next X.me.ws)).2.i-st.i) by
   have:=gQ.o;have:=bM 2 1 l.ai;have:=bM u 1 (R (s.next X.me.ws)).1.ai;have:=cC.o;simp only [List.length_append];omega)
  have js:(R (s.next X.me.ws)).2.i<X.me.ws.length/\s.i+1<(R (s.next X.me.ws)).2.i:=by have:=cC.o;omega
  have Ee:=aa (show cL X.me.ws R [[42],[47]] st=dh X.me.ws R [[42],[47]] (gk-1) (bin (bJ (s.aU X.me.ws).aX) l (R (s.next X.me.ws)).1) (R (s.next X.me.ws)).2 by
   obtain⟨n,hn⟩:∃n,gk=n+1:=⟨gk-1,by omega⟩
   rw [HC.o,hn,nC.o n];rfl)
  clear mg ki eV jI oL fy iV kd;go_wp2
  go_roundg (gk-1)
  case measure=>omega
  case rel=>exact⟨_,_,1,_,_,K2,rfl,Ee,by simp only [PS.rem]at sX jh⊢;have:=js;have:=cC.o;omega,vQ,nO,by have h6:=vP.o;rw [mG.o]at h6;exact aa (by rw [mG.o];exact h6),by omega,js.1,tB,fY,mA,iD⟩
 have hkb:=BT ht;have o_:=aa (show Ck X (s.next X.me.ws).i ((F++D)++dY t 1 l.ai) (eQ X.all K') w4 by rw [cC.o,pE ht (pL.o.t2)];simpa using ly.o);have nB:=aa lQ.o;have HNt:=aa ht;clear ly lQ ht;generalize xZ:rG t=kk at*;have WW:=aa xZ;clear xZ
 go_wp2_with fail
 refine(dE HE.o 1 (by omega) 105 rfl (sc:=sc) (vv:=vv) (st:=s.next X.me.ws) (F:=(F++D)++dY t 1 l.ai) (K:=K') ⟨o_.o,HI.o.vs.fr nB.o,by have:=HI.o.sc;have:=cC.o;omega,km.o,iD.o,by have:=cC.o;omega,by have:=cC.o;have:=HI.o.rem;simp only [PS.rem]at this⊢;omega,by have:=HI.o.bf;have:=gQ.o.1;have:=bM t 1 l.ai;have:=cC.o;simp only [List.length_append];omega,by have:=HI.o.bk;have:=gQ.o.2;have:=cC.o;omega⟩).mono ?_;rintro e w6 ⟨u,D2,A2,K2,rfl,mg,ki,eV,jI,oL,fy,iV,kd⟩;have vQ:=aa (nB.o.trans mg);have nO:=aa (show Ck X (R (s.next X.me.ws)).2.i (F++((D++dY t 1 l.ai)++(D2++dY u 1 (R (s.next X.me.ws)).1.ai))) (eQ X.all K2) w6 by have:=ki;simpa only [List.append_assoc]using this);have vP:=aa (Ty.bin pL.o eV (bJ (s.aU X.me.ws).aX) (by rw [mG.o];decide) ((R (s.next X.me.ws)).2.i-st.i) (by have:=cC.o;omega) (by have:=cC.o;omega));have tB:=aa (show ∀y,y∈K2↔y∈K\/y∈A++A2 from λy=>by rw [fy y,nI.o y,List.mem_append,or_assoc])
 have fY:=aa (show((D++dY t 1 l.ai)++(D2++dY u 1 (R (s.next X.me.ws)).1.ai)).length<=3*((R (s.next X.me.ws)).2.i-st.i)/\K2.length<=K.length+700*((R (s.next X.me.ws)).2.i-st.i) by
  have:=gQ.o;have:=bM t 1 l.ai;have:=bM u 1 (R (s.next X.me.ws)).1.ai;have:=cC.o;simp only [List.length_append];omega)
 have js:(R (s.next X.me.ws)).2.i<X.me.ws.length/\s.i+1<(R (s.next X.me.ws)).2.i:=by have:=cC.o;omega
 have Ee:=aa (show cL X.me.ws R [[42],[47]] st=dh X.me.ws R [[42],[47]] (gk-1) (bin (bJ (s.aU X.me.ws).aX) l (R (s.next X.me.ws)).1) (R (s.next X.me.ws)).2 by
  obtain⟨n,hn⟩:∃n,gk=n+1:=⟨gk-1,by omega⟩
  rw [HC.o,hn,nC.o n];rfl)
 clear mg ki eV jI oL fy iV kd;go_wp2
 go_roundg (gk-1)
 case measure=>omega
 case rel=>exact⟨_,_,1,_,_,K2,rfl,Ee,by simp only [PS.rem]at sX jh⊢;have:=js;have:=cC.o;omega,vQ,nO,by have h6:=vP.o;rw [mG.o]at h6;exact aa (by rw [mG.o];exact h6),by omega,js.1,tB,fY,mA,iD⟩
theorem Iq{ar:gS}(hE:Dj X ar m 2 R)(hG:dT X.me.ws m R)(hW:G1 X ar):Dj X ar m 1 (cL X.me.ws R [[43],[45]]):=by
 intro sc vv st F K w h;have hi:=h.lt
 have uV:(st.i:Int)<(X.me.ws.length:Int):=by omega
 obtain⟨c1,c6,cl,cf,w0,w1,w2,gl,gO⟩:=h.ck.ar hi;have hg:=hG st hi h.rem;have bp:(R st).2.aH=false:=nA hG [[43],[45]] X.me.ws.length (R st).1 (R st).2 hg.1 (ey h.rem hg.2.1) h.f1;have HI:=aa h;have qE:=aa (show zT X m sc vv st F K (R st) w from⟨h.ck,h.vs,h.sc,h.f0,bp,h.lt,h.rem,h.bf,h.bk⟩);have HE:=aa hE;have HG:=aa hG;have HW:=aa hW;have fJ:=aa h.f1;have pq:=aa (show(st.aU X.me.ws).ai=X.me.ws[st.i].ai by unfold PS.aU;simp [List.getD,hi]);have WV:=aa bp;clear h hE hG hW hg bp;generalize X.me.ws[st.i]=x at*
 go_enter func240,ntmps240
 go_wp2_with fail
 go_quiet (fail)
 go_wp2_with fail
 refine(HE.o sc vv st F K _ (qE.o.drewN nq)).mono ?_;rintro e w3 ⟨t,D,A,K',rfl,hf3,hc3,xd,kP,iY,D6,mF,hpl⟩;have B5:=aa (((fX.refl X.lo w).drewN nq).trans hf3);have jl:=aa hc3;have pL:=aa xd;have nI:=aa D6;have gQ:=aa mF;have sH:=aa hpl;clear hf3 hc3 xd D6 mF hpl c1 c6 cl cf w0 w1 w2 gl
 go_wp2_with fail
 go_loopg [10] X.me.ws.length (λn v10 wr=>∃(l:Ex) (s:PS) (t:Nat) (D:List (Nat×Nat)) (A:List (Nm×Nm)) (K':List (Nm×Nm)),v10=.int .u8 (rG t)/\Hy (cL X.me.ws R [[43],[45]] st=dh X.me.ws R [[43],[45]] n l s)/\s.rem X.me.ws<n/\Hy (fX X.lo w wr)/\Hy (Ck X s.i (F++D) (eQ X.all K') wr)/\
  Hy (Ty ar sc l t D A (s.i-st.i))/\st.i<s.i/\s.i<X.me.ws.length/\Hy (∀x,x∈K'↔x∈K\/x∈A)/\Hy (D.length<=3*(s.i-st.i)/\K'.length<=K.length+700*(s.i-st.i))/\Hy (l.ai=(st.aU X.me.ws).ai)/\Hy (s.aH=false))
 case atStart=>exact⟨(R st).1,(R st).2,t,D,A,K',rfl,aa rfl,by simp only [PS.rem];omega,B5,jl,pL,kP,iY,nI,gQ,sH,WV⟩
 clear B5 jl pL nI gQ sH kP iY;obtain⟨l,s,t,D,A,K',rfl,HC,jh,lO,qF,pL,kP,iY,nI,gQ,mA,km⟩:=hrel
 rcases ha:s.aN X.me.ws [[43]]with _|_
 ·rcases hb:s.aN X.me.ws [[45]]with _|_
  ·have eJ:=aa (show cL X.me.ws R [[43],[45]] st=(l,s) by rw [HC.o];exact pB _ _ _ _ _ (by rw [cY,ha,hb];rfl))
   have ea:=ha;have eb:=hb;rw [cP]at ea eb
   go_wp2_with fail
   refine(cE qF.o iY [43]).mono ?_;rintro e w4 ⟨rfl,nR,j'⟩;rw [ea]at j'⊢;have lQ:=aa (lO.o.trans nR);have ly:=aa (show Ck X s.i (F++D) (eQ X.all K') w4 from j');clear nR j' ea
   go_wp2_with fail
   refine(cE ly.o iY [45]).mono ?_;rintro e w5 ⟨rfl,ma,iO⟩;rw [eb]at iO⊢;have nB:=aa (lQ.o.trans ma);have o_:=aa (show Ck X s.i (F++D) (eQ X.all K') w5 from iO);clear ma iO eb;go_wp2;go_ret;rw [eJ.o];exact⟨t,D,A,K',rfl,nB.o,o_.o,pL.o,kP,iY,nI.o,gQ.o,mA.o⟩
  ·have ui:=PS.bX HW.o.last hb iY
   have ea:=ha;have eb:=hb;rw [cP]at ea eb
   go_wp2_with fail
   refine(cE qF.o iY [43]).mono ?_;rintro e w4' ⟨rfl,nR,j'⟩;rw [ea]at j'⊢;have F9:=aa (lO.o.trans nR);have FA:=aa (show Ck X s.i (F++D) (eQ X.all K') w4' from j');clear nR j' ea
   go_wp2_with fail
   refine(cE FA.o iY [45]).mono ?_;rintro e w4 ⟨rfl,ma,iO⟩;rw [eb]at iO⊢;have lQ:=aa (F9.o.trans ma);have ly:=aa (show Ck X (s.i+1) (F++D) (eQ X.all K') w4 from iO);clear ma iO eb F9 FA;have cC:=aa (show(s.next X.me.ws).i=s.i+1 from(by show min (s.i+1) (X.me.ws.length-1)=_;omega));have nC:=aa (λn=>qq (n:=n) (R:=R) (l:=l) (show s.aN X.me.ws [[43],[45]]=true by rw [cY,ha,hb];rfl));have mG:=aa (mz hb)
   have sX:(s.next X.me.ws).rem X.me.ws<gk-1:=by have:=cC.o;simp only [PS.rem]at jh⊢;omega
   have P8:=aa (HG.o (s.next X.me.ws) (by rw [cC.o];omega) (by have:=cC.o;have:=HI.o.rem;simp only [PS.rem]at this⊢;omega))
   have iD:=aa (show(R (s.next X.me.ws)).2.aH=false by
    obtain⟨n,hn⟩:∃n,gk=n+1:=⟨gk-1,by omega⟩;have q:=fJ.o;rw [HC.o,hn,nC.o n]at q
    exact nA HG.o [[43],[45]] n _ _ P8.o.1 (ey HI.o.rem (by have:=P8.o.2.1;have:=cC.o;omega)) q)
   have HVn:=aa (HI.o.vs.fr lQ.o)
   rcases (show t=2\/t≠2 by omega)with rfl|ht
   ·go_wp2_with fail
    refine(je ly.o 8 x.ai (by have:=HI.o.bf;have:=gQ.o.1;rw [List.length_append];omega)).mono ?_;rintro e w5 ⟨rfl,ma,iO⟩;have nB:=aa (lQ.o.trans ma);have o_:=aa (show Ck X (s.next X.me.ws).i ((F++D)++dY 2 1 l.ai) (eQ X.all K') w5 by rw [cC.o,mA.o,pq.o];exact iO);clear ma iO ly lQ
    go_wp2_with fail
    refine(dE HE.o 1 (by omega) 105 rfl (sc:=sc) (vv:=vv) (st:=s.next X.me.ws) (F:=(F++D)++dY 2 1 l.ai) (K:=K') ⟨o_.o,HI.o.vs.fr nB.o,by have:=HI.o.sc;have:=cC.o;omega,km.o,iD.o,by have:=cC.o;omega,by have:=cC.o;have:=HI.o.rem;simp only [PS.rem]at this⊢;omega,by have:=HI.o.bf;have:=gQ.o.1;have:=bM 2 1 l.ai;have:=cC.o;simp only [List.length_append];omega,by have:=HI.o.bk;have:=gQ.o.2;have:=cC.o;omega⟩).mono ?_;rintro e w6 ⟨u,D2,A2,K2,rfl,mg,ki,eV,jI,oL,fy,iV,kd⟩;have vQ:=aa (nB.o.trans mg);have nO:=aa (show Ck X (R (s.next X.me.ws)).2.i (F++((D++dY 2 1 l.ai)++(D2++dY u 1 (R (s.next X.me.ws)).1.ai))) (eQ X.all K2) w6 by have:=ki;simpa only [List.append_assoc]using this);have vP:=aa (Ty.bin pL.o eV (bJ (s.aU X.me.ws).aX) (by rw [mG.o];decide) ((R (s.next X.me.ws)).2.i-st.i) (by have:=cC.o;omega) (by have:=cC.o;omega));have tB:=aa (show ∀y,y∈K2↔y∈K\/y∈A++A2 from λy=>by rw [fy y,nI.o y,List.mem_append,or_assoc])
    have fY:=aa (show((D++dY 2 1 l.ai)++(D2++dY u 1 (R (s.next X.me.ws)).1.ai)).length<=3*((R (s.next X.me.ws)).2.i-st.i)/\K2.length<=K.length+700*((R (s.next X.me.ws)).2.i-st.i) by
     have:=gQ.o;have:=bM 2 1 l.ai;have:=bM u 1 (R (s.next X.me.ws)).1.ai;have:=cC.o;simp only [List.length_append];omega)
    have js:(R (s.next X.me.ws)).2.i<X.me.ws.length/\s.i+1<(R (s.next X.me.ws)).2.i:=by have:=cC.o;omega
    have Ee:=aa (show cL X.me.ws R [[43],[45]] st=dh X.me.ws R [[43],[45]] (gk-1) (bin (bJ (s.aU X.me.ws).aX) l (R (s.next X.me.ws)).1) (R (s.next X.me.ws)).2 by
     obtain⟨n,hn⟩:∃n,gk=n+1:=⟨gk-1,by omega⟩
     rw [HC.o,hn,nC.o n];rfl)
    clear mg ki eV jI oL fy iV kd;go_wp2
    go_roundg (gk-1)
    case measure=>omega
    case rel=>exact⟨_,_,1,_,_,K2,rfl,Ee,by simp only [PS.rem]at sX jh⊢;have:=js;have:=cC.o;omega,vQ,nO,by have h6:=vP.o;rw [mG.o]at h6;exact aa (by rw [mG.o];exact h6),by omega,js.1,tB,fY,mA,iD⟩
   ·have hkb:=BT ht
    have o_:=aa (show Ck X (s.next X.me.ws).i ((F++D)++dY t 1 l.ai) (eQ X.all K') w4 by rw [cC.o,pE ht (pL.o.t2)];simpa using ly.o);have nB:=aa lQ.o;have HNt:=aa ht;clear ly lQ ht;generalize xZ:rG t=kk at*;have WW:=aa xZ;clear xZ
    go_wp2_with fail
    refine(dE HE.o 1 (by omega) 105 rfl (sc:=sc) (vv:=vv) (st:=s.next X.me.ws) (F:=(F++D)++dY t 1 l.ai) (K:=K') ⟨o_.o,HI.o.vs.fr nB.o,by have:=HI.o.sc;have:=cC.o;omega,km.o,iD.o,by have:=cC.o;omega,by have:=cC.o;have:=HI.o.rem;simp only [PS.rem]at this⊢;omega,by have:=HI.o.bf;have:=gQ.o.1;have:=bM t 1 l.ai;have:=cC.o;simp only [List.length_append];omega,by have:=HI.o.bk;have:=gQ.o.2;have:=cC.o;omega⟩).mono ?_;rintro e w6 ⟨u,D2,A2,K2,rfl,mg,ki,eV,jI,oL,fy,iV,kd⟩;have vQ:=aa (nB.o.trans mg);have nO:=aa (show Ck X (R (s.next X.me.ws)).2.i (F++((D++dY t 1 l.ai)++(D2++dY u 1 (R (s.next X.me.ws)).1.ai))) (eQ X.all K2) w6 by have:=ki;simpa only [List.append_assoc]using this);have vP:=aa (Ty.bin pL.o eV (bJ (s.aU X.me.ws).aX) (by rw [mG.o];decide) ((R (s.next X.me.ws)).2.i-st.i) (by have:=cC.o;omega) (by have:=cC.o;omega));have tB:=aa (show ∀y,y∈K2↔y∈K\/y∈A++A2 from λy=>by rw [fy y,nI.o y,List.mem_append,or_assoc])
    have fY:=aa (show((D++dY t 1 l.ai)++(D2++dY u 1 (R (s.next X.me.ws)).1.ai)).length<=3*((R (s.next X.me.ws)).2.i-st.i)/\K2.length<=K.length+700*((R (s.next X.me.ws)).2.i-st.i) by
     have:=gQ.o;have:=bM t 1 l.ai;have:=bM u 1 (R (s.next X.me.ws)).1.ai;have:=cC.o;simp only [List.length_append];omega)
    have js:(R (s.next X.me.ws)).2.i<X.me.ws.length/\s.i+1<(R (s.next X.me.ws)).2.i:=by have:=cC.o;omega
    have Ee:=aa (show cL X.me.ws R [[43],[45]] st=dh X.me.ws R [[43],[45]] (gk-1) (bin (bJ (s.aU X.me.ws).aX) l (R (s.next X.me.ws)).1) (R (s.next X.me.ws)).2 by
     obtain⟨n,hn⟩:∃n,gk=n+1:=⟨gk-1,by omega⟩
     rw [HC.o,hn,nC.o n];rfl)
    clear mg ki eV jI oL fy iV kd;go_wp2
    go_roundg (gk-1)
    case measure=>omega
    case rel=>exact⟨_,_,1,_,_,K2,rfl,Ee,by simp only [PS.rem]at sX jh⊢;have:=js;have:=cC.o;omega,vQ,nO,by have h6:=vP.o;rw [mG.o]at h6;exact aa (by rw [mG.o];exact h6),by omega,js.1,tB,fY,mA,iD⟩
 have ui:=PS.bX HW.o.last ha iY;have ea:=ha;rw [cP]at ea
 go_wp2_with fail
 refine(cE qF.o iY [43]).mono ?_;rintro e w4 ⟨rfl,nR,j'⟩;rw [ea]at j'⊢;have lQ:=aa (lO.o.trans nR);have ly:=aa (show Ck X (s.i+1) (F++D) (eQ X.all K') w4 from j');clear nR j' ea;have cC:=aa (show(s.next X.me.ws).i=s.i+1 from(by show min (s.i+1) (X.me.ws.length-1)=_;omega));have nC:=aa (λn=>qq (n:=n) (R:=R) (l:=l) (show s.aN X.me.ws [[43],[45]]=true by rw [cY,ha];rfl));have mG:=aa (mz ha)
 have sX:(s.next X.me.ws).rem X.me.ws<gk-1:=by have:=cC.o;simp only [PS.rem]at jh⊢;omega
 have P8:=aa (HG.o (s.next X.me.ws) (by rw [cC.o];omega) (by have:=cC.o;have:=HI.o.rem;simp only [PS.rem]at this⊢;omega))
 have iD:=aa (show(R (s.next X.me.ws)).2.aH=false by
  obtain⟨n,hn⟩:∃n,gk=n+1:=⟨gk-1,by omega⟩;have q:=fJ.o;rw [HC.o,hn,nC.o n]at q
  exact nA HG.o [[43],[45]] n _ _ P8.o.1 (ey HI.o.rem (by have:=P8.o.2.1;have:=cC.o;omega)) q)
 have HVn:=aa (HI.o.vs.fr lQ.o)
 rcases (show t=2\/t≠2 by omega)with rfl|ht
 ·go_wp2_with fail
  refine(je ly.o 8 x.ai (by have:=HI.o.bf;have:=gQ.o.1;rw [List.length_append];omega)).mono ?_;rintro e w5 ⟨rfl,ma,iO⟩;have nB:=aa (lQ.o.trans ma);have o_:=aa (show Ck X (s.next X.me.ws).i ((F++D)++dY 2 1 l.ai) (eQ X.all K') w5 by rw [cC.o,mA.o,pq.o];exact iO);clear ma iO ly lQ
  go_wp2_with fail
  refine(dE HE.o 1 (by omega) 105 rfl (sc:=sc) (vv:=vv) (st:=s.next X.me.ws) (F:=(F++D)++dY 2 1 l.ai) (K:=K') ⟨o_.o,HI.o.vs.fr nB.o,by have:=HI.o.sc;have:=cC.o;omega,km.o,iD.o,by have:=cC.o;omega,by have:=cC.o;have:=HI.o.rem;simp only [PS.rem]at this⊢;omega,by have:=HI.o.bf;have:=gQ.o.1;have:=bM 2 1 l.ai;have:=cC.o;simp only [List.length_append];omega,by have:=HI.o.bk;have:=gQ.o.2;have:=cC.o;omega⟩).mono ?_;rintro e w6 ⟨u,D2,A2,K2,rfl,mg,ki,eV,jI,oL,fy,iV,kd⟩;have vQ:=aa (nB.o.trans mg);have nO:=aa (show Ck X (R (s.next X.me.ws)).2.i (F++((D++dY 2 1 l.ai)++(D2++dY u 1 (R (s.next X.me.ws)).1.ai))) (eQ X.all K2) w6 by have:=ki;simpa only [List.append_assoc]using this);have vP:=aa (Ty.bin pL.o eV (bJ (s.aU X.me.ws).aX) (by rw [mG.o];decide) ((R (s.next X.me.ws)).2.i-st.i) (by have:=cC.o;omega) (by have:=cC.o;omega));have tB:=aa (show ∀y,y∈K2↔y∈K\/y∈A++A2 from λy=>by rw [fy y,nI.o y,List.mem_append,or_assoc])
  have fY:=aa (show((D++dY 2 1 l.ai)++(D2++dY u 1 (R (s.next X.me.ws)).1.ai)).length<=3*((R (s.next X.me.ws)).2.i-st.i)/\K2.length<=K.length+700*((R (s.next X.me.ws)).2.i-st.i) by
   have:=gQ.o;have:=bM 2 1 l.ai;have:=bM u 1 (R (s.next X.me.ws)).1.ai;have:=cC.o;simp only [List.length_append];omega)
  have js:(R (s.next X.me.ws)).2.i<X.me.ws.length/\s.i+1<(R (s.next X.me.ws)).2.i:=by have:=cC.o;omega
  have Ee:=aa (show cL X.me.ws R [[43],[45]] st=dh X.me.ws R [[43],[45]] (gk-1) (bin (bJ (s.aU X.me.ws).aX) l (R (s.next X.me.ws)).1) (R (s.next X.me.ws)).2 by
   obtain⟨n,hn⟩:∃n,gk=n+1:=⟨gk-1,by omega⟩
   rw [HC.o,hn,nC.o n];rfl)
  clear mg ki eV jI oL fy iV kd;go_wp2
  go_roundg (gk-1)
  case measure=>omega
  case rel=>exact⟨_,_,1,_,_,K2,rfl,Ee,by simp only [PS.rem]at sX jh⊢;have:=js;have:=cC.o;omega,vQ,nO,by have h6:=vP.o;rw [mG.o]at h6;exact aa (by rw [mG.o];exact h6),by omega,js.1,tB,fY,mA,iD⟩
 have hkb:=BT ht;have o_:=aa (show Ck X (s.next X.me.ws).i ((F++D)++dY t 1 l.ai) (eQ X.all K') w4 by rw [cC.o,pE ht (pL.o.t2)];simpa using ly.o);have nB:=aa lQ.o;have HNt:=aa ht;clear ly lQ ht;generalize xZ:rG t=kk at*;have WW:=aa xZ;clear xZ
 go_wp2_with fail
 refine(dE HE.o 1 (by omega) 105 rfl (sc:=sc) (vv:=vv) (st:=s.next X.me.ws) (F:=(F++D)++dY t 1 l.ai) (K:=K') ⟨o_.o,HI.o.vs.fr nB.o,by have:=HI.o.sc;have:=cC.o;omega,km.o,iD.o,by have:=cC.o;omega,by have:=cC.o;have:=HI.o.rem;simp only [PS.rem]at this⊢;omega,by have:=HI.o.bf;have:=gQ.o.1;have:=bM t 1 l.ai;have:=cC.o;simp only [List.length_append];omega,by have:=HI.o.bk;have:=gQ.o.2;have:=cC.o;omega⟩).mono ?_;rintro e w6 ⟨u,D2,A2,K2,rfl,mg,ki,eV,jI,oL,fy,iV,kd⟩;have vQ:=aa (nB.o.trans mg);have nO:=aa (show Ck X (R (s.next X.me.ws)).2.i (F++((D++dY t 1 l.ai)++(D2++dY u 1 (R (s.next X.me.ws)).1.ai))) (eQ X.all K2) w6 by have:=ki;simpa only [List.append_assoc]using this);have vP:=aa (Ty.bin pL.o eV (bJ (s.aU X.me.ws).aX) (by rw [mG.o];decide) ((R (s.next X.me.ws)).2.i-st.i) (by have:=cC.o;omega) (by have:=cC.o;omega));have tB:=aa (show ∀y,y∈K2↔y∈K\/y∈A++A2 from λy=>by rw [fy y,nI.o y,List.mem_append,or_assoc])
 have fY:=aa (show((D++dY t 1 l.ai)++(D2++dY u 1 (R (s.next X.me.ws)).1.ai)).length<=3*((R (s.next X.me.ws)).2.i-st.i)/\K2.length<=K.length+700*((R (s.next X.me.ws)).2.i-st.i) by
  have:=gQ.o;have:=bM t 1 l.ai;have:=bM u 1 (R (s.next X.me.ws)).1.ai;have:=cC.o;simp only [List.length_append];omega)
 have js:(R (s.next X.me.ws)).2.i<X.me.ws.length/\s.i+1<(R (s.next X.me.ws)).2.i:=by have:=cC.o;omega
 have Ee:=aa (show cL X.me.ws R [[43],[45]] st=dh X.me.ws R [[43],[45]] (gk-1) (bin (bJ (s.aU X.me.ws).aX) l (R (s.next X.me.ws)).1) (R (s.next X.me.ws)).2 by
  obtain⟨n,hn⟩:∃n,gk=n+1:=⟨gk-1,by omega⟩
  rw [HC.o,hn,nC.o n];rfl)
 clear mg ki eV jI oL fy iV kd;go_wp2
 go_roundg (gk-1)
 case measure=>omega
 case rel=>exact⟨_,_,1,_,_,K2,rfl,Ee,by simp only [PS.rem]at sX jh⊢;have:=js;have:=cC.o;omega,vQ,nO,by have h6:=vP.o;rw [mG.o]at h6;exact aa (by rw [mG.o];exact h6),by omega,js.1,tB,fY,mA,iD⟩
theorem zU(hl:cG ws){t:List UInt8}(hi:s.i<ws.length)(h:(s.au ws t).aH=false):s.aH=false/\(s.au ws t).i=s.i+1/\s.i+1<ws.length:=by
 unfold PS.au at h⊢
 rcases hat:s.aN ws [t]with _|_
 ·rw [hat]at h;cases h
 rw [hat,if_pos rfl]at h;have:=PS.bX hl hat hi;rw [if_pos rfl];exact⟨h,by show min (s.i+1) (ws.length-1)=_;omega,this⟩
def SK(X:CX)(ar:gS)(m:Nat)(r:Ex×PS)(st:PS):Prop:=
 ∀sc vv F K w,zT X m sc vv st F K r w->Calls prog 269 #[.pointer (some ⟨X.cb,0,none⟩),vv] w (WU X ar sc F K st r w)
theorem Ck.SM(h:Ck X i F U w):w.cell? ⟨X.cb,6,none⟩=some (.int .i64 i)/\X.cb<w.heap.size/\∀o,w.frozen? ⟨X.cb,o,none⟩=false:=by
 obtain⟨fo,fc,uo,uc,hb,_,_⟩:=h.mem;exact⟨by rw [ae hb];rfl,af hb,aj hb⟩
theorem P9{ar:gS}(hE:Dj X ar n 0 E)(hG:dT X.me.ws n E)(hW:G1 X ar)(hat:st.aN X.me.ws [[105,102]]=true):SK X ar (n+1) (jN X.me.ws E fa st) st:=by
 have hr:jN X.me.ws E fa st=dX X.me.ws E st:=by unfold jN;rw [if_pos hat]
 rw [hr];intro sc vv F K w h;have hi:=h.lt;have ui:=PS.bX hW.last hat hi
 have qZ:(st.next X.me.ws).i=st.i+1:=by show min (st.i+1) (X.me.ws.length-1)=_;omega
 obtain⟨s1,hs1⟩:∃s1,s1=st.next X.me.ws:=⟨_,rfl⟩;obtain⟨s2,hs2⟩:∃s2,s2=(E s1).2.au X.me.ws [116,104,101,110]:=⟨_,rfl⟩;obtain⟨s3,hs3⟩:∃s3,s3=(E s2).2.au X.me.ws [101,108,115,101]:=⟨_,rfl⟩
 have hres:dX X.me.ws E st=(⟨5,(st.aU X.me.ws).ai,[],0,[(E s1).1,(E s2).1,(E s3).1]⟩,(E s3).2):=by rw [hs3,hs2,hs1];rfl
 have ur:s1.i=st.i+1:=by rw [hs1];exact qZ
 have hm:=h.rem;have g1:=hG s1 (by omega) (by simp only [PS.rem]at hm⊢;omega)
 have l2:s2.i<X.me.ws.length:=by rw [hs2];exact fW _ g1.1
 have q2:(E s1).2.i<=s2.i:=by rw [hs2];exact PS.bQ _ g1.1
 have g2:=hG s2 l2 (by have:=g1.2.1;simp only [PS.rem]at hm⊢;omega)
 have l3:s3.i<X.me.ws.length:=by rw [hs3];exact fW _ g2.1
 have q3:(E s2).2.i<=s3.i:=by rw [hs3];exact PS.bQ _ g2.1
 have g3:=hG s3 l3 (by have:=g1.2.1;have:=g2.2.1;simp only [PS.rem]at hm⊢;omega)
 have f3:(E s3).2.aH=false:=by have:=h.f1;rw [hres]at this;exact this
 have WX:=(g3.2.2 f3).1;have x3:=zU hW.last g2.1 (by rw [<-hs3];exact WX);rw [<-hs3]at x3;have TB:=(g2.2.2 x3.1).1;have x2:=zU hW.last g1.1 (by rw [<-hs2];exact TB);rw [<-hs2]at x2;have GG:=(g1.2.2 x2.1).1;have WY:=hat;rw [cP]at WY;have HI:=aa h;have HE:=aa hE;have HG:=aa hG;have HW:=aa hW;have eJ:=aa hres;have JK:=aa x2;have PA:=aa x3;have vN:=aa GG;have oK:=aa TB;have B5:=aa f3;have SN:=aa WX;have HM:=aa hm;have hlen:=hW.len;clear h hE hG hW hres hr hs1 hs2 hs3 x2 x3 GG TB f3 WX hat hm qZ
 go_enter func269,ntmps269
 go_wp2_with fail
 refine(cE HI.o.ck hi [105,102]).mono ?_;rintro e w1 ⟨rfl,hf,hc⟩;rw [WY]at hc⊢;have pF:=aa hf;have nJ:=aa (show Ck X s1.i F (eQ X.all K) w1 by rw [ur];exact hc);clear hf hc WY
 go_wp2_with fail
 refine(dE HE.o 2 (by omega) 98 rfl (sc:=sc) (vv:=vv) (st:=s1) (F:=F) (K:=K) ⟨nJ.o,HI.o.vs.fr pF.o,by have:=HI.o.sc;omega,vN.o,JK.o.1,by omega,by have:=HM.o;simp only [PS.rem]at this⊢;omega,by have:=HI.o.bf;omega,by have:=HI.o.bk;omega⟩).mono ?_;rintro e w2 ⟨t1,D1,A1,K1,rfl,hf2,hc2,zV,WZ,oT,zW,zX,FB⟩;have mY:=aa (pF.o.trans hf2);have kW:=aa hc2;have Bz:=aa zV;have Ir:=aa zW;have eC:=aa zX;have Yf:=aa FB;clear hf2 hc2 zV zW zX FB nJ pF;obtain⟨c6,cl,cf⟩:=kW.o.SM;have kY:=aa (kW.o.to s2.i)
 have TG:((s2.i:Nat):Int)=((E s1).2.i:Int)+1:=by have:=JK.o.2.1;omega
 rw [TG]at kY;have acg:=aa TG;have hx2:=JK.o.2;clear TG
 go_wp2_with fail
 refine(HE.o sc vv s2 _ _ _ ⟨kY.o.2,HI.o.vs.fr (mY.o.trans kY.o.1),by have:=HI.o.sc;omega,oK.o,PA.o.1,l2,by have:=HM.o;simp only [PS.rem]at this⊢;omega,by have:=HI.o.bf;have:=eC.o.1;have:=bM t1 2 (E s1).1.ai;simp only [List.length_append];omega,by have:=HI.o.bk;have:=eC.o.2;omega⟩).mono ?_;rintro e w3 ⟨t2,D2,A2,K2,rfl,hf3,hc3,PC,pY,hl2,PE,PF,W_⟩;have oB:=aa ((mY.o.trans kY.o.1).trans hf3);have jl:=aa hc3;have Gu:=aa PC;have uQ:=aa PE;have cU:=aa PF;clear hf3 hc3 PC PE PF W_ kW mY kY c6 cl cf acg;obtain⟨c6,cl,cf⟩:=jl.o.SM;have kY:=aa (jl.o.to s3.i)
 have he3:((s3.i:Nat):Int)=((E s2).2.i:Int)+1:=by have:=PA.o.2.1;omega
 rw [he3]at kY;have hx3:=PA.o.2;have VX:=Gu.o.t2;clear he3
 go_wp2_with fail
 refine(dE HE.o t2 VX _ rfl (sc:=sc) (vv:=vv) (st:=s3) ⟨kY.o.2,HI.o.vs.fr (oB.o.trans kY.o.1),by have:=HI.o.sc;omega,SN.o,B5.o,l3,by have:=HM.o;simp only [PS.rem]at this⊢;omega,by have:=HI.o.bf;have:=eC.o.1;have:=cU.o.1;have:=bM t1 2 (E s1).1.ai;simp only [List.length_append];omega,by have:=HI.o.bk;have:=eC.o.2;have:=cU.o.2;omega⟩).mono ?_;rintro e w4 ⟨t3,D3,A3,K3,rfl,nR,j',FC,kP,iY,FD,FE,PG⟩;have AE:=aa ((oB.o.trans kY.o.1).trans nR);have ly:=aa j';have QJ:=aa FC;have iy:=aa FD;have dy:=aa FE;clear nR j' FC FD FE PG jl oB kY c6 cl cf;go_wp2;go_ret;rw [eJ.o];refine⟨t2,(D1++dY t1 2 (E s1).1.ai)++D2++(D3++dY t3 t2 (E s3).1.ai),A1++A2++A3,K3,rfl,AE.o,?_,Ty.if_ Bz.o Gu.o QJ.o _ _ (by show(E s1).2.i-s1.i+1<=(E s3).2.i-st.i;omega) (by show(E s2).2.i-s2.i+1<=(E s3).2.i-st.i;omega) (by show(E s3).2.i-s3.i+1<=(E s3).2.i-st.i;omega),by show st.i<(E s3).2.i;omega,iY,λx=> ?_,?_,rfl⟩
 ·have:=ly.o
  simpa only [List.append_assoc]using this
 ·rw [iy.o,uQ.o,Ir.o,List.mem_append,List.mem_append,or_assoc,or_assoc,or_assoc]
 have h1:=eC.o;have h2:=cU.o;have h3:=dy.o;have:=bM t1 2 (E s1).1.ai;have:=bM t3 t2 (E s3).1.ai;show _<=3*((E s3).2.i-st.i)/\_<=_+700*((E s3).2.i-st.i);simp only [List.length_append];omega
theorem LP{ar:gS}(hS:Dj X ar (n+1) 1 (xE X.me.ws fa))(hG:dT X.me.ws (n+1) (xE X.me.ws fa))(hW:G1 X ar)(a1:st.aN X.me.ws [[105,102]]=false)(a2:st.aN X.me.ws [[108,101,116]]=false):SK X ar (n+1) (jN X.me.ws E fa st) st:=by
 have hr:jN X.me.ws E fa st=iP X.me.ws fa st:=by unfold jN;rw [a1,a2];rfl
 rw [hr];intro sc vv F K w h;have hi:=h.lt
 have uV:(st.i:Int)<(X.me.ws.length:Int):=by omega
 obtain⟨R,hR⟩:∃R,R=xE X.me.ws fa:=⟨_,rfl⟩
 have Xa:iP X.me.ws fa st=if(R st).2.aN X.me.ws [[60],[61,61]]then(bin (bJ ((R st).2.aU X.me.ws).aX) (R st).1 (R ((R st).2.next X.me.ws)).1,(R ((R st).2.next X.me.ws)).2)else R st:=by rw [hR];rfl
 rw [<-hR]at hS hG;have g1:=hG st hi h.rem
 have f1:(R st).2.aH=false:=by
  have hf:=h.f1;rw [Xa]at hf
  rcases hat:(R st).2.aN X.me.ws [[60],[61,61]]with _|_
  ·rw [hat]at hf;exact hf
  ·rw [hat,if_pos rfl]at hf
   exact((hG ((R st).2.next X.me.ws) (PS.cB g1.1) (ey h.rem (Nat.le_trans g1.2.1 (PS.cj g1.1)))).2.2 hf).1
 have e1:=a1;have e2:=a2;rw [cP]at e1 e2;have HI:=aa h;have HE:=aa hS;have HG:=aa hG;have HW:=aa hW;have SQ:=aa Xa;have vN:=aa f1;have HM:=aa h.rem;have WG:=aa g1;clear h hS hG hW Xa hr f1 g1 a1 a2 hR
 go_enter func269,ntmps269
 go_wp2_with fail
 refine(cE HI.o.ck hi [105,102]).mono ?_;rintro e w1 ⟨rfl,hf,hc⟩;rw [e1]at hc⊢;have pF:=aa hf;have nJ:=aa (show Ck X st.i F (eQ X.all K) w1 from hc);clear hf hc e1
 go_wp2_with fail
 refine(cE nJ.o hi [108,101,116]).mono ?_;rintro e w2 ⟨rfl,hf,hc⟩;rw [e2]at hc⊢;have mY:=aa (pF.o.trans hf);have kW:=aa (show Ck X st.i F (eQ X.all K) w2 from hc);clear hf hc e2 nJ pF;obtain⟨c1,c6,cl,cf,q0,q1,q2,gl,gO⟩:=kW.o.ar hi;have pq:=aa (show(st.aU X.me.ws).ai=X.me.ws[st.i].ai by unfold PS.aU;simp [List.getD,hi]);have Vr:=aa (show zT X (n+1) sc vv st F K (R st) w2 from⟨kW.o,HI.o.vs.fr mY.o,HI.o.sc,HI.o.f0,vN.o,hi,HM.o,HI.o.bf,HI.o.bk⟩);generalize X.me.ws[st.i]=x at*
 go_wp2_with fail
 go_quiet (fail)
 go_wp2_with fail
 refine(HE.o sc vv st F K _ (Vr.o.drewN nq)).mono ?_;rintro e w3 ⟨t,D,A,K',rfl,hf3,hc3,xd,kP,iY,D6,mF,hpl⟩;have oB:=aa ((mY.o.drewN nq).trans hf3);have jl:=aa hc3;have pL:=aa xd;have nI:=aa D6;have gQ:=aa mF;have mA:=aa hpl;clear hf3 hc3 xd D6 mF hpl c1 c6 cl cf q0 q1 q2 gl kW mY Vr;obtain⟨s,hs⟩:∃s,s=(R st).2:=⟨_,rfl⟩;obtain⟨l,hl⟩:∃l,l=(R st).1:=⟨_,rfl⟩;rw [<-hs,<-hl]at SQ;rw [<-hs]at jl pL gQ vN kP iY;rw [<-hl]at pL mA;have aax:=aa (show R st=(l,s) by rw [hs,hl]);clear hs hl
 rcases ha:s.aN X.me.ws [[60]]with _|_
 ·rcases hb:s.aN X.me.ws [[61,61]]with _|_
  ·have eJ:=aa (show iP X.me.ws fa st=(l,s) by rw [SQ.o,cY,ha,hb];exact aax.o)
   have ea:=ha;have eb:=hb;rw [cP]at ea eb
   go_wp2_with fail
   refine(cE jl.o iY [60]).mono ?_;rintro e w4 ⟨rfl,nR,j'⟩;rw [ea]at j'⊢;have lQ:=aa (oB.o.trans nR);have ly:=aa (show Ck X s.i (F++D) (eQ X.all K') w4 from j');clear nR j' ea
   go_wp2_with fail
   refine(cE ly.o iY [61,61]).mono ?_;rintro e w5 ⟨rfl,ma,iO⟩;rw [eb]at iO⊢;have nB:=aa (lQ.o.trans ma);have o_:=aa (show Ck X s.i (F++D) (eQ X.all K') w5 from iO);clear ma iO eb;go_wp2;go_ret;rw [eJ.o];exact⟨t,D,A,K',rfl,nB.o,o_.o,pL.o,kP,iY,nI.o,gQ.o,mA.o⟩
  ·have ui:=PS.bX HW.o.last hb iY
   have ea:=ha;have eb:=hb;rw [cP]at ea eb
   go_wp2_with fail
   refine(cE jl.o iY [60]).mono ?_;rintro e w4' ⟨rfl,nR,j'⟩;rw [ea]at j'⊢;have F9:=aa (oB.o.trans nR);have FA:=aa (show Ck X s.i (F++D) (eQ X.all K') w4' from j');clear nR j' ea
   go_wp2_with fail
   refine(cE FA.o iY [61,61]).mono ?_;rintro e w4 ⟨rfl,ma,iO⟩;rw [eb]at iO⊢;have lQ:=aa (F9.o.trans ma);have ly:=aa (show Ck X (s.i+1) (F++D) (eQ X.all K') w4 from iO);clear ma iO eb F9 FA;have cC:=aa (show(s.next X.me.ws).i=s.i+1 from(by show min (s.i+1) (X.me.ws.length-1)=_;omega));have mG:=aa (mz hb);have eJ:=aa (show iP X.me.ws fa st=(bin (bJ (s.aU X.me.ws).aX) l (R (s.next X.me.ws)).1,(R (s.next X.me.ws)).2) by rw [SQ.o,cY,ha,hb];rfl);have iD:=aa (show(R (s.next X.me.ws)).2.aH=false by have:=HI.o.f1;rw [eJ.o]at this;exact this);have HVn:=aa (HI.o.vs.fr lQ.o)
   rcases (show t=2\/t≠2 by omega)with rfl|ht
   ·go_wp2_with fail
    refine(je ly.o 8 x.ai (by have:=HI.o.bf;have:=gQ.o.1;rw [List.length_append];omega)).mono ?_;rintro e w5 ⟨rfl,ma,iO⟩;have nB:=aa (lQ.o.trans ma);have o_:=aa (show Ck X (s.next X.me.ws).i ((F++D)++dY 2 1 l.ai) (eQ X.all K') w5 by rw [cC.o,mA.o,pq.o];exact iO);clear ma iO ly lQ
    go_wp2_with fail
    refine(dE HE.o 1 (by omega) 105 rfl (sc:=sc) (vv:=vv) (st:=s.next X.me.ws) (F:=(F++D)++dY 2 1 l.ai) (K:=K') ⟨o_.o,HI.o.vs.fr nB.o,by have:=HI.o.sc;have:=cC.o;omega,vN.o,iD.o,by have:=cC.o;omega,by have:=cC.o;have:=HI.o.rem;simp only [PS.rem]at this⊢;omega,by have:=HI.o.bf;have:=gQ.o.1;have:=bM 2 1 l.ai;have:=cC.o;simp only [List.length_append];omega,by have:=HI.o.bk;have:=gQ.o.2;have:=cC.o;omega⟩).mono ?_;rintro e w6 ⟨u,D2,A2,K2,rfl,mg,ki,eV,jI,oL,fy,iV,kd⟩;have vQ:=aa (nB.o.trans mg);have nO:=aa (show Ck X (R (s.next X.me.ws)).2.i (F++((D++dY 2 1 l.ai)++(D2++dY u 1 (R (s.next X.me.ws)).1.ai))) (eQ X.all K2) w6 by have:=ki;simpa only [List.append_assoc]using this)
    have vP:=aa (show Ty ar sc (bin (bJ (s.aU X.me.ws).aX) l (R (s.next X.me.ws)).1) 2 ((D++dY 2 1 l.ai)++(D2++dY u 1 (R (s.next X.me.ws)).1.ai)) (A++A2) ((R (s.next X.me.ws)).2.i-st.i) by
     have h6:=Ty.bin pL.o eV (bJ (s.aU X.me.ws).aX) (by rw [mG.o];decide) ((R (s.next X.me.ws)).2.i-st.i) (by have:=cC.o;omega) (by have:=cC.o;omega);rw [mG.o]at h6⊢
     exact h6)
    have tB:=aa (show ∀y,y∈K2↔y∈K\/y∈A++A2 from λy=>by rw [fy y,nI.o y,List.mem_append,or_assoc])
    have fY:=aa (show((D++dY 2 1 l.ai)++(D2++dY u 1 (R (s.next X.me.ws)).1.ai)).length<=3*((R (s.next X.me.ws)).2.i-st.i)/\K2.length<=K.length+700*((R (s.next X.me.ws)).2.i-st.i) by
     have:=gQ.o;have:=bM 2 1 l.ai;have:=bM u 1 (R (s.next X.me.ws)).1.ai;have:=cC.o;simp only [List.length_append];omega)
    have js:(R (s.next X.me.ws)).2.i<X.me.ws.length/\s.i+1<(R (s.next X.me.ws)).2.i:=by have:=cC.o;omega
    clear mg ki eV jI oL fy iV kd;go_wp2;go_ret;rw [eJ.o];exact⟨2,_,_,K2,rfl,vQ.o,nO.o,vP.o,by show st.i<(R (s.next X.me.ws)).2.i;omega,js.1,tB.o,fY.o,mA.o⟩
   ·have hkb:=BT ht
    have o_:=aa (show Ck X (s.next X.me.ws).i ((F++D)++dY t 1 l.ai) (eQ X.all K') w4 by rw [cC.o,pE ht (pL.o.t2)];simpa using ly.o);have nB:=aa lQ.o;have HNt:=aa ht;clear ly lQ ht;generalize xZ:rG t=kk at*;have WW:=aa xZ;clear xZ
    go_wp2_with fail
    refine(dE HE.o 1 (by omega) 105 rfl (sc:=sc) (vv:=vv) (st:=s.next X.me.ws) (F:=(F++D)++dY t 1 l.ai) (K:=K') ⟨o_.o,HI.o.vs.fr nB.o,by have:=HI.o.sc;have:=cC.o;omega,vN.o,iD.o,by have:=cC.o;omega,by have:=cC.o;have:=HI.o.rem;simp only [PS.rem]at this⊢;omega,by have:=HI.o.bf;have:=gQ.o.1;have:=bM t 1 l.ai;have:=cC.o;simp only [List.length_append];omega,by have:=HI.o.bk;have:=gQ.o.2;have:=cC.o;omega⟩).mono ?_;rintro e w6 ⟨u,D2,A2,K2,rfl,mg,ki,eV,jI,oL,fy,iV,kd⟩;have vQ:=aa (nB.o.trans mg);have nO:=aa (show Ck X (R (s.next X.me.ws)).2.i (F++((D++dY t 1 l.ai)++(D2++dY u 1 (R (s.next X.me.ws)).1.ai))) (eQ X.all K2) w6 by have:=ki;simpa only [List.append_assoc]using this)
    have vP:=aa (show Ty ar sc (bin (bJ (s.aU X.me.ws).aX) l (R (s.next X.me.ws)).1) 2 ((D++dY t 1 l.ai)++(D2++dY u 1 (R (s.next X.me.ws)).1.ai)) (A++A2) ((R (s.next X.me.ws)).2.i-st.i) by
     have h6:=Ty.bin pL.o eV (bJ (s.aU X.me.ws).aX) (by rw [mG.o];decide) ((R (s.next X.me.ws)).2.i-st.i) (by have:=cC.o;omega) (by have:=cC.o;omega);rw [mG.o]at h6⊢
     exact h6)
    have tB:=aa (show ∀y,y∈K2↔y∈K\/y∈A++A2 from λy=>by rw [fy y,nI.o y,List.mem_append,or_assoc])
    have fY:=aa (show((D++dY t 1 l.ai)++(D2++dY u 1 (R (s.next X.me.ws)).1.ai)).length<=3*((R (s.next X.me.ws)).2.i-st.i)/\K2.length<=K.length+700*((R (s.next X.me.ws)).2.i-st.i) by
     have:=gQ.o;have:=bM t 1 l.ai;have:=bM u 1 (R (s.next X.me.ws)).1.ai;have:=cC.o;simp only [List.length_append];omega)
    have js:(R (s.next X.me.ws)).2.i<X.me.ws.length/\s.i+1<(R (s.next X.me.ws)).2.i:=by have:=cC.o;omega
    clear mg ki eV jI oL fy iV kd;go_wp2;go_ret;rw [eJ.o];exact⟨2,_,_,K2,rfl,vQ.o,nO.o,vP.o,by show st.i<(R (s.next X.me.ws)).2.i;omega,js.1,tB.o,fY.o,mA.o⟩
 have ui:=PS.bX HW.o.last ha iY;have ea:=ha;rw [cP]at ea
 go_wp2_with fail
 refine(cE jl.o iY [60]).mono ?_;rintro e w4 ⟨rfl,nR,j'⟩;rw [ea]at j'⊢;have lQ:=aa (oB.o.trans nR);have ly:=aa (show Ck X (s.i+1) (F++D) (eQ X.all K') w4 from j');clear nR j' ea;have cC:=aa (show(s.next X.me.ws).i=s.i+1 from(by show min (s.i+1) (X.me.ws.length-1)=_;omega));have mG:=aa (mz ha);have eJ:=aa (show iP X.me.ws fa st=(bin (bJ (s.aU X.me.ws).aX) l (R (s.next X.me.ws)).1,(R (s.next X.me.ws)).2) by rw [SQ.o,cY,ha];rfl);have iD:=aa (show(R (s.next X.me.ws)).2.aH=false by have:=HI.o.f1;rw [eJ.o]at this;exact this);have HVn:=aa (HI.o.vs.fr lQ.o)
 rcases (show t=2\/t≠2 by omega)with rfl|ht
 ·go_wp2_with fail
  refine(je ly.o 8 x.ai (by have:=HI.o.bf;have:=gQ.o.1;rw [List.length_append];omega)).mono ?_;rintro e w5 ⟨rfl,ma,iO⟩;have nB:=aa (lQ.o.trans ma);have o_:=aa (show Ck X (s.next X.me.ws).i ((F++D)++dY 2 1 l.ai) (eQ X.all K') w5 by rw [cC.o,mA.o,pq.o];exact iO);clear ma iO ly lQ
  go_wp2_with fail
  refine(dE HE.o 1 (by omega) 105 rfl (sc:=sc) (vv:=vv) (st:=s.next X.me.ws) (F:=(F++D)++dY 2 1 l.ai) (K:=K') ⟨o_.o,HI.o.vs.fr nB.o,by have:=HI.o.sc;have:=cC.o;omega,vN.o,iD.o,by have:=cC.o;omega,by have:=cC.o;have:=HI.o.rem;simp only [PS.rem]at this⊢;omega,by have:=HI.o.bf;have:=gQ.o.1;have:=bM 2 1 l.ai;have:=cC.o;simp only [List.length_append];omega,by have:=HI.o.bk;have:=gQ.o.2;have:=cC.o;omega⟩).mono ?_;rintro e w6 ⟨u,D2,A2,K2,rfl,mg,ki,eV,jI,oL,fy,iV,kd⟩;have vQ:=aa (nB.o.trans mg);have nO:=aa (show Ck X (R (s.next X.me.ws)).2.i (F++((D++dY 2 1 l.ai)++(D2++dY u 1 (R (s.next X.me.ws)).1.ai))) (eQ X.all K2) w6 by have:=ki;simpa only [List.append_assoc]using this)
  have vP:=aa (show Ty ar sc (bin (bJ (s.aU X.me.ws).aX) l (R (s.next X.me.ws)).1) 2 ((D++dY 2 1 l.ai)++(D2++dY u 1 (R (s.next X.me.ws)).1.ai)) (A++A2) ((R (s.next X.me.ws)).2.i-st.i) by
   have h6:=Ty.bin pL.o eV (bJ (s.aU X.me.ws).aX) (by rw [mG.o];decide) ((R (s.next X.me.ws)).2.i-st.i) (by have:=cC.o;omega) (by have:=cC.o;omega);rw [mG.o]at h6⊢
   exact h6)
  have tB:=aa (show ∀y,y∈K2↔y∈K\/y∈A++A2 from λy=>by rw [fy y,nI.o y,List.mem_append,or_assoc])
  have fY:=aa (show((D++dY 2 1 l.ai)++(D2++dY u 1 (R (s.next X.me.ws)).1.ai)).length<=3*((R (s.next X.me.ws)).2.i-st.i)/\K2.length<=K.length+700*((R (s.next X.me.ws)).2.i-st.i) by
   have:=gQ.o;have:=bM 2 1 l.ai;have:=bM u 1 (R (s.next X.me.ws)).1.ai;have:=cC.o;simp only [List.length_append];omega)
  have js:(R (s.next X.me.ws)).2.i<X.me.ws.length/\s.i+1<(R (s.next X.me.ws)).2.i:=by have:=cC.o;omega
  clear mg ki eV jI oL fy iV kd;go_wp2;go_ret;rw [eJ.o];exact⟨2,_,_,K2,rfl,vQ.o,nO.o,vP.o,by show st.i<(R (s.next X.me.ws)).2.i;omega,js.1,tB.o,fY.o,mA.o⟩
 have hkb:=BT ht;have o_:=aa (show Ck X (s.next X.me.ws).i ((F++D)++dY t 1 l.ai) (eQ X.all K') w4 by rw [cC.o,pE ht (pL.o.t2)];simpa using ly.o);have nB:=aa lQ.o;have HNt:=aa ht;clear ly lQ ht;generalize xZ:rG t=kk at*;have WW:=aa xZ;clear xZ
 go_wp2_with fail
 refine(dE HE.o 1 (by omega) 105 rfl (sc:=sc) (vv:=vv) (st:=s.next X.me.ws) (F:=(F++D)++dY t 1 l.ai) (K:=K') ⟨o_.o,HI.o.vs.fr nB.o,by have:=HI.o.sc;have:=cC.o;omega,vN.o,iD.o,by have:=cC.o;omega,by have:=cC.o;have:=HI.o.rem;simp only [PS.rem]at this⊢;omega,by have:=HI.o.bf;have:=gQ.o.1;have:=bM t 1 l.ai;have:=cC.o;simp only [List.length_append];omega,by have:=HI.o.bk;have:=gQ.o.2;have:=cC.o;omega⟩).mono ?_;rintro e w6 ⟨u,D2,A2,K2,rfl,mg,ki,eV,jI,oL,fy,iV,kd⟩;have vQ:=aa (nB.o.trans mg);have nO:=aa (show Ck X (R (s.next X.me.ws)).2.i (F++((D++dY t 1 l.ai)++(D2++dY u 1 (R (s.next X.me.ws)).1.ai))) (eQ X.all K2) w6 by have:=ki;simpa only [List.append_assoc]using this)
 have vP:=aa (show Ty ar sc (bin (bJ (s.aU X.me.ws).aX) l (R (s.next X.me.ws)).1) 2 ((D++dY t 1 l.ai)++(D2++dY u 1 (R (s.next X.me.ws)).1.ai)) (A++A2) ((R (s.next X.me.ws)).2.i-st.i) by
  have h6:=Ty.bin pL.o eV (bJ (s.aU X.me.ws).aX) (by rw [mG.o];decide) ((R (s.next X.me.ws)).2.i-st.i) (by have:=cC.o;omega) (by have:=cC.o;omega);rw [mG.o]at h6⊢
  exact h6)
 have tB:=aa (show ∀y,y∈K2↔y∈K\/y∈A++A2 from λy=>by rw [fy y,nI.o y,List.mem_append,or_assoc])
 have fY:=aa (show((D++dY t 1 l.ai)++(D2++dY u 1 (R (s.next X.me.ws)).1.ai)).length<=3*((R (s.next X.me.ws)).2.i-st.i)/\K2.length<=K.length+700*((R (s.next X.me.ws)).2.i-st.i) by
  have:=gQ.o;have:=bM t 1 l.ai;have:=bM u 1 (R (s.next X.me.ws)).1.ai;have:=cC.o;simp only [List.length_append];omega)
 have js:(R (s.next X.me.ws)).2.i<X.me.ws.length/\s.i+1<(R (s.next X.me.ws)).2.i:=by have:=cC.o;omega
 clear mg ki eV jI oL fy iV kd;go_wp2;go_ret;rw [eJ.o];exact⟨2,_,_,K2,rfl,vQ.o,nO.o,vP.o,by show st.i<(R (s.next X.me.ws)).2.i;omega,js.1,tB.o,fY.o,mA.o⟩
theorem BU:(prog.info? 323).map (λi=>(i.zero,i.size,i.bytes))=some (some (.agg #[.string ⟨#[]⟩,.int .u8 0,.int .i64 0]),3,32):=by kernel_rfl
theorem FH(sc:List (List UInt8×Nat))(x:List UInt8×Nat):fj (sc++ [x])= [.string ⟨x.1.toArray⟩,.int .u8 (rG x.2),.int .i64 0]++fj sc:=by
 unfold fj;simp
theorem zY(sc:List (List UInt8×Nat)):(fj sc).length=sc.length*3:=by
 unfold fj
 have:∀l:List (List UInt8×Nat),(l.flatMap λx=> [Value.string ⟨x.1.toArray⟩,.int .u8 (rG x.2),.int .i64 0]).length=l.length*3:=by
  intro l
  induction l with
  |nil=>rfl
  |cons y q ih=>rw [List.flatMap_cons,List.length_append,ih];simp;omega
 rw [this,List.length_reverse]
theorem Iu(sc:List (List UInt8×Nat)):∀u∈fj sc,u.oneCell'=true:=by
 intro u hu;unfold fj at hu;obtain⟨x,_,hx⟩:=List.mem_flatMap.1 hu;simp only [List.mem_cons,List.not_mem_nil,or_false]at hx
 rcases hx with rfl|rfl|rfl<;>rfl
theorem zZ{a b c:Value}(h0:a.oneCell'=true)(h1:b.oneCell'=true)(h2:c.oneCell'=true):∀u∈ [a,b,c],u.oneCell'=true:=by
 intro u hu;simp only [List.mem_cons,List.not_mem_nil,or_false]at hu
 rcases hu with rfl|rfl|rfl<;>assumption
theorem PH(w:World)(p:Addr)(u a b c:Value)(t:TypeId):∀j x,[a,b,c][j]?=some x->((w.setCell p u).alloc (.cells #[a,b,c] t)).cell? ((⟨w.heap.size,0,none⟩:Addr).add j)=some x:=by
 have h:=eU (w.setCell p u) a b c t
 have e:(w.setCell p u).heap.size=w.heap.size:=by simp [World.setCell]
 rw [e]at h;exact h
theorem dF(h:w.grownBy w' v.ownBlock)(hb:∀k,v.ownBlock=some k->b<=k)(hs:b<=w.heap.size):Below b w w':=
 ⟨h.os,h.tape,h.output,h.size,λk hk=>h.block k (by omega) (λe=>by have:=hb k e.symm;omega)⟩
theorem Ck.Xb(h:Ck X i F U w)(ho:w.ownsRow b 323 3 v n xs)(hg:w.grownBy w' v.ownBlock)(hcb:∀k,v.ownBlock=some k->X.cb<k):Ck X i F U w':=by
 obtain⟨fo,fc,uo,uc,p,q,r⟩:=h.mem;have hlt:=af p;have tI:=h.Gy
 exact⟨⟨fo,fc,uo,uc,(hg.block _ hlt (λe=>by have:=hcb _ e.symm;omega)).trans p,dL q ho (by decide) hg,dL r ho (by decide) hg⟩,h.Gy,h.bad,h.hS,
  h.me.keep λk hS hk=>⟨hS,hg.block k hk (λe=>by have:=hcb _ e.symm;have:=h.hS k hS;omega)⟩,h.all.keep λk hS hk=>⟨hS,hg.block k hk (λe=>by have:=hcb _ e.symm;have:=h.hS k hS;omega)⟩,h.xu,h.nd⟩
theorem fX.dB{w1 w2:World}(h:fX lo w w1)(hb:Below b w1 w2)(hs:w.heap.size<=b):fX lo w w2:=
 ⟨hb.os.trans h.os,hb.tape.trans h.tape,hb.output.trans h.output,Nat.le_trans h.size hb.size,λk hk hx=>(hb.block k (by omega)).trans (h.block k hk hx)⟩
theorem SR(hl:cG ws)(hi:s.i<ws.length)(h:(s.bH ws).aH=false):s.aH=false/\(s.bH ws).i=s.i+1/\s.i+1<ws.length/\(s.cK ws).aX=(s.aU ws).aX:=by
 obtain⟨a,b⟩:=yj h;have hk:=PS.fM hl (s:=s) (by omega) hi;refine⟨a,?_,hk,?_⟩
 ·unfold PS.bH;rw [if_pos b];show min (s.i+1) (ws.length-1)=_;omega
 unfold PS.cK;rw [if_pos b]
theorem LQ{ar:gS}(hE:Dj X ar n 0 E)(hG:dT X.me.ws n E)(hW:G1 X ar)(a1:st.aN X.me.ws [[105,102]]=false)(hat:st.aN X.me.ws [[108,101,116]]=true):SK X ar (n+1) (jN X.me.ws E fa st) st:=by
 have hr:jN X.me.ws E fa st=dD X.me.ws E st:=by unfold jN;rw [a1,hat];rfl
 rw [hr];intro sc vv F K w h;have hi:=h.lt;have ui:=PS.bX hW.last hat hi
 have qZ:(st.next X.me.ws).i=st.i+1:=by show min (st.i+1) (X.me.ws.length-1)=_;omega
 obtain⟨s1,hs1⟩:∃s1,s1=st.next X.me.ws:=⟨_,rfl⟩;obtain⟨s2,hs2⟩:∃s2,s2=(s1.bH X.me.ws).au X.me.ws [61]:=⟨_,rfl⟩;obtain⟨s3,hs3⟩:∃s3,s3=(E s2).2.au X.me.ws [105,110]:=⟨_,rfl⟩
 have hres:dD X.me.ws E st=(⟨6,(st.aU X.me.ws).ai,(s1.cK X.me.ws).aX,0,[(E s2).1,(E s3).1]⟩,(E s3).2):=by rw [hs3,hs2,hs1];rfl
 have ur:s1.i=st.i+1:=by rw [hs1];exact qZ
 have hm:=h.rem
 have oT:s1.i<X.me.ws.length:=by omega
 have ln:=De (ws:=X.me.ws) oT;have gn:=ym (ws:=X.me.ws) oT
 have l2:s2.i<X.me.ws.length:=by rw [hs2];exact fW _ ln
 have q2:(s1.bH X.me.ws).i<=s2.i:=by rw [hs2];exact PS.bQ _ ln
 have g2:=hG s2 l2 (by simp only [PS.rem]at hm⊢;omega)
 have l3:s3.i<X.me.ws.length:=by rw [hs3];exact fW _ g2.1
 have q3:(E s2).2.i<=s3.i:=by rw [hs3];exact PS.bQ _ g2.1
 have g3:=hG s3 l3 (by have:=g2.2.1;simp only [PS.rem]at hm⊢;omega)
 have f3:(E s3).2.aH=false:=by have:=h.f1;rw [hres]at this;exact this
 have WX:=(g3.2.2 f3).1;have x3:=zU hW.last g2.1 (by rw [<-hs3];exact WX);rw [<-hs3]at x3;have TB:=(g2.2.2 x3.1).1;have x2:=zU hW.last ln (by rw [<-hs2];exact TB);rw [<-hs2]at x2;have xn:=SR hW.last oT x2.1
 have Cw:s2.i=st.i+3:=by omega
 have WY:=hat;have e1:=a1;rw [cP]at WY e1;obtain⟨nm,lK⟩:∃nm,nm=X.me.ws[s1.i].aX:=⟨_,rfl⟩
 have hnw:(s1.cK X.me.ws).aX=nm:=by rw [xn.2.2.2,lK];unfold PS.aU;simp [List.getD,oT]
 rw [hnw]at hres;have HI:=aa h;have HE:=aa hE;have HG:=aa hG;have HW:=aa hW;have eJ:=aa hres;have PA:=aa x3;have oK:=aa TB;have B5:=aa f3;have SN:=aa WX;have HM:=aa hm;have AG:=aa lK;have Xc:=aa ur;have sU:=aa Cw;clear h hE hG hW hres hr hs1 hs2 hs3 x2 x3 TB f3 WX hat a1 hm qZ xn hnw lK ur Cw
 go_enter func269,ntmps269
 go_wp2_with fail
 refine(cE HI.o.ck hi [105,102]).mono ?_;rintro e w1 ⟨rfl,hf,hc⟩;rw [e1]at hc⊢;have pF:=aa hf;have nJ:=aa (show Ck X st.i F (eQ X.all K) w1 from hc);clear hf hc e1
 go_wp2_with fail
 refine(cE nJ.o hi [108,101,116]).mono ?_;rintro e w2 ⟨rfl,hf,hc⟩;rw [WY]at hc⊢;have mY:=aa (pF.o.trans hf);have kW:=aa (show Ck X s1.i F (eQ X.all K) w2 by rw [Xc.o];exact hc);clear hf hc WY nJ pF;obtain⟨c1,c6,cl,cf,p0,p1,p2,gl,gO⟩:=kW.o.ar oT
 have adC:(s1.i:Int)<(X.me.ws.length:Int):=by omega
 rw [<-AG.o]at p1;clear p0 p2
 go_wp2_with fail
 go_quiet (fail)
 have jl:=aa (kW.o.drewN nq);have oB:=aa (mY.o.drewN nq);generalize w2.drewN nq=w3 at*;clear c1 c6 cl cf p1 gl;obtain⟨c6,cl,cf⟩:=jl.o.SM;have kY:=aa (jl.o.to s2.i)
 have TG:((s2.i:Nat):Int)=(s1.i:Int)+2:=by have:=Xc.o;have:=sU.o;omega
 rw [TG]at kY;have hlen:=HW.o.len
 have adD:s1.i+2<X.me.ws.length:=by have:=Xc.o;have:=sU.o;omega
 clear TG
 go_wp2_with fail
 refine(HE.o sc vv s2 _ _ _ ⟨kY.o.2,HI.o.vs.fr (oB.o.trans kY.o.1),by have:=HI.o.sc;have:=sU.o;omega,oK.o,PA.o.1,l2,by have hq:=HM.o;have:=sU.o;simp only [PS.rem]at hq⊢;omega,by have:=HI.o.bf;have:=sU.o;omega,by have:=HI.o.bk;have:=sU.o;omega⟩).mono ?_;rintro e w4 ⟨t2,D2,A2,K2,rfl,hf3,hc3,PC,pY,hl2,PE,PF,W_⟩;have AE:=aa ((oB.o.trans kY.o.1).trans hf3);have ly:=aa hc3;have Gu:=aa PC;have uQ:=aa PE;have cU:=aa PF;clear hf3 hc3 PC PE PF W_ kW mY kY c6 cl cf jl oB;obtain⟨c6,cl,cf⟩:=ly.o.SM;have kY:=aa (ly.o.to s3.i)
 have he3:((s3.i:Nat):Int)=((E s2).2.i:Int)+1:=by have:=PA.o.2.1;omega
 rw [he3]at kY;have hx3:=PA.o.2;have VX:=Gu.o.t2;clear he3;obtain⟨i0,nW,hz0,hz1,hz2⟩:=info_parts BU
 have b1:0+1<=maxLen:=by decide
 have b2:(0+1)*32<=140737488355328:=by decide
 go_wp2_with (at_builtin;refine bC _ rfl _ _ 321 rfl w4.heap.size 323 i0 (.agg #[.string ⟨#[]⟩,.int .u8 0,.int .i64 0]) 3 32 underlying321 nW hz0 hz1 hz2 rfl (by decide) (.slice none 0 0) 0 [] rfl (World.ownsRow_nil _ _ _ _) ⟨w4.heap.size,0,none⟩ 1 1 [.string ⟨nm.toArray⟩,.int .u8 (rG t2),.int .i64 0] rfl rfl (PH w4 _ _ _ _ _ _) (zZ rfl rfl rfl) (by omega) b1 b2 (by simp [World.setCell]) ?_)
 intro g1 wO w6 hown aB aJ;have Xd:Below (w4.setCell ⟨X.cb,6,none⟩ (.int .i64 (((E s2).2.i:Int)+1))).heap.size (w4.setCell ⟨X.cb,6,none⟩ (.int .i64 (((E s2).2.i:Int)+1))) w6:=dF (v:=.slice none 0 0) (aA aB) (λk e=>by simp [Value.ownBlock]at e) (Nat.le_refl _);have nO:=aa (kY.o.2.below Xd);have AL:=aa ((AE.o.trans kY.o.1).trans (.aW Xd));have Cx:=aa hown
 have Vp:1<=wO:=by
  rcases hown.2 with⟨h,_⟩|⟨g,c,aU,h,_,_,hn,_⟩
  ·cases h
  ·injection h with _ _ h3;omega
 have pK:w4.heap.size+1<=w6.heap.size:=by have:=aB.size;simp [World.setCell]at this;omega
 have xG:w4.heap.size+1<=g1/\g1<w6.heap.size:=⟨by rcases aJ with h|h;(simp [Value.ownBlock]at h);exact h,(aQ hown g1 rfl).2⟩
 have HV6:=aa (HI.o.vs.fr AL.o);have GJ:=aa cl;have HSz:=aa (show w.heap.size<=w4.heap.size from AE.o.size);clear Xd hown aB aJ kY ly AE c6 cl cf
 by_cases hsc:sc= []
 ·have hv:=HV6.o.nil hsc
  subst hv;have Bg:=aa hsc;have HV7:=aa (show Vs w6 (.slice (some ⟨g1,0,none⟩) 1 wO) (sc++ [(nm,t2)])from⟨by rw [hsc];exact cI Cx.o (Nat.zero_le _),λx hx=>by rw [hsc]at hx;simp at hx;subst hx;exact VX,λh=>by simp at h⟩);clear hsc nW hz0 hz1 hz2
  go_wp2_with fail
  refine(HE.o (sc++ [(nm,t2)]) _ s3 _ _ _ ⟨nO.o,HV7.o,by have:=HI.o.sc;have:=sU.o;have:=PA.o.2.1;have:=g2.2.1;simp only [List.length_append,List.length_cons,List.length_nil];omega,SN.o,B5.o,l3,by have hq:=HM.o;have:=sU.o;have:=g2.2.1;simp only [PS.rem]at hq⊢;omega,by have:=HI.o.bf;have:=sU.o;have:=cU.o.1;simp only [List.length_append];omega,by have:=HI.o.bk;have:=sU.o;have:=cU.o.2;omega⟩).mono ?_;rintro e w8 ⟨t3,D3,A3,K3,rfl,Ut,Uu,FC,kP,iY,FD,FE,PG⟩;have HR8:=aa (AL.o.trans Ut);have HC8:=aa Uu;have QJ:=aa FC;have iy:=aa FD;have dy:=aa FE;clear Ut Uu FC FD FE PG;have Cw:=sU.o;have ach:=PA.o.2.1;go_wp2;go_ret;rw [eJ.o];refine⟨t3,D2++D3,A2++A3,K3,rfl,HR8.o,?_,Ty.let_ Gu.o QJ.o _ _ (by show(E s2).2.i-s2.i+1<=(E s3).2.i-st.i;omega) (by show(E s3).2.i-s3.i+1<=(E s3).2.i-st.i;omega),by show st.i<(E s3).2.i;omega,iY,λx=> ?_,?_,rfl⟩
  ·have:=HC8.o
   simpa only [List.append_assoc]using this
  ·rw [iy.o,uQ.o,List.mem_append,or_assoc]
  ·have h2:=cU.o
   have h3:=dy.o;show _<=3*((E s3).2.i-st.i)/\_<=_+700*((E s3).2.i-st.i);simp only [List.length_append];omega
 have jR:0<sc.length:=by cases sc with|nil=>exact absurd rfl hsc|cons a b=>simp
 have hV:=HV6.o.row
 rcases bZ hV with⟨_,h0⟩|⟨gv,vc,rfl,_,hgv,hmv,hcv,_⟩
 ·omega
 have HVc:=aa (show ∀j u,(fj sc)[j]?=some u->w6.cell? ((⟨gv,0,none⟩:Addr).add j)=some u from λj u hj=>by
  have wj:j<(fj sc).length:=by rcases List.getElem?_eq_some_iff.1 hj with⟨h,_⟩;exact h
  rw [zY]at wj;have:=(hcv j wj).trans hj
  by_cases h0:j=0
  ·subst h0;simpa [Addr.add]using this
  ·simpa [Addr.add,h0]using this)
 have Mw:sc.length<=1400:=by have:=HI.o.sc;omega
 have b3:1+sc.length<=maxLen:=by unfold maxLen;omega
 have b4:(1+sc.length)*32<=140737488355328:=by omega
 have dH:w4.heap.size<=w6.heap.size:=by omega
 have Bg:=aa hsc;clear hV hcv hsc b1 b2
 go_wp2_with (at_builtin;refine bC _ rfl _ _ 321 rfl w4.heap.size 323 i0 (.agg #[.string ⟨#[]⟩,.int .u8 0,.int .i64 0]) 3 32 underlying321 nW hz0 hz1 hz2 rfl (by decide) (.slice (some ⟨g1,0,none⟩) 1 wO) 1 [.string ⟨nm.toArray⟩,.int .u8 (rG t2),.int .i64 0] rfl Cx.o ⟨gv,0,none⟩ sc.length vc (fj sc) rfl (zY sc) HVc.o (Iu sc) jR b3 b4 dH ?_)
 intro g2' wN w7 hown aB aJ;have adE:=GJ.o;have aay:Below (w4.heap.size+1) w6 w7:=dF (v:=.slice (some ⟨g1,0,none⟩) 1 wO) aB (λk e=>by simp [Value.ownBlock]at e;omega) pK;have yc:=aa (nO.o.Xb Cx.o aB (λk e=>by simp [Value.ownBlock]at e;omega));have MA:=aa (AL.o.dB aay (by have:=HSz.o;omega))
 have HV8:=aa (show Vs w7 (.slice (some ⟨g2',0,none⟩) (1+sc.length) wN) (sc++ [(nm,t2)])from⟨by rw [FH,show(sc++ [(nm,t2)]).length=1+sc.length by simp;omega];exact cI hown (Nat.zero_le _),λx hx=>by rcases List.mem_append.1 hx with hx|hx;exact HI.o.vs.t2 x hx;simp at hx;subst hx;exact VX,λh=>by simp at h⟩)
 clear hown aB aJ aay nW hz0 hz1 hz2
 go_wp2_with fail
 refine(HE.o (sc++ [(nm,t2)]) _ s3 _ _ _ ⟨yc.o,HV8.o,by have:=HI.o.sc;have:=sU.o;have:=PA.o.2.1;have:=g2.2.1;simp only [List.length_append,List.length_cons,List.length_nil];omega,SN.o,B5.o,l3,by have hq:=HM.o;have:=sU.o;have:=g2.2.1;simp only [PS.rem]at hq⊢;omega,by have:=HI.o.bf;have:=sU.o;have:=cU.o.1;simp only [List.length_append];omega,by have:=HI.o.bk;have:=sU.o;have:=cU.o.2;omega⟩).mono ?_;rintro e w8 ⟨t3,D3,A3,K3,rfl,Ut,Uu,FC,kP,iY,FD,FE,PG⟩;have HR8:=aa (MA.o.trans Ut);have HC8:=aa Uu;have QJ:=aa FC;have iy:=aa FD;have dy:=aa FE;clear Ut Uu FC FD FE PG;have Cw:=sU.o;have ach:=PA.o.2.1;go_wp2;go_ret;rw [eJ.o];refine⟨t3,D2++D3,A2++A3,K3,rfl,HR8.o,?_,Ty.let_ Gu.o QJ.o _ _ (by show(E s2).2.i-s2.i+1<=(E s3).2.i-st.i;omega) (by show(E s3).2.i-s3.i+1<=(E s3).2.i-st.i;omega),by show st.i<(E s3).2.i;omega,iY,λx=> ?_,?_,rfl⟩
 ·have:=HC8.o
  simpa only [List.append_assoc]using this
 ·rw [iy.o,uQ.o,List.mem_append,or_assoc]
 have h2:=cU.o;have h3:=dy.o;show _<=3*((E s3).2.i-st.i)/\_<=_+700*((E s3).2.i-st.i);simp only [List.length_append];omega
def FI(X:CX)(ar:gS)(m:Nat)(r:Ex×PS)(st:PS):Prop:=
 ∀sc vv F K w,zT X m sc vv st F K r w->Calls prog 270 #[.pointer (some ⟨X.cb,0,none⟩),vv] w (WU X ar sc F K st r w)
theorem su{x:Wd}(h:x.aL=4):(dV x).aeh≠100/\(dV x).aeh≠110:=by
 have a:=vp x;have b:=Fa x;rw [h]at a b;simp at a b;exact⟨a,b⟩
theorem SS(w:World)(p:Addr)(u:Value):(w.setCell p u).heap.size=w.heap.size:=by simp [World.setCell]
theorem Ck.took(h:Ck X i F U w)(c:Array Value):
  fX X.lo w ((w.setCell ⟨X.cb,6,none⟩ (.int .i64 ((i:Int)+1))).alloc (.cells c 361)).drew/\Ck X (i+1) F U ((w.setCell ⟨X.cb,6,none⟩ (.int .i64 ((i:Int)+1))).alloc (.cells c 361)).drew/\
   ((w.setCell ⟨X.cb,6,none⟩ (.int .i64 ((i:Int)+1))).alloc (.cells c 361)).drew.heap[w.heap.size]?=some (.cells c 361 (0,0)):=by
 have ht:=h.to (i+1);refine⟨(ht.1.alloc _).drew,(ht.2.alloc _).drew,?_⟩;have:=aF (w.setCell ⟨X.cb,6,none⟩ (.int .i64 ((i:Int)+1))) (.cells c 361);rw [SS]at this;exact this
theorem PI{ar:gS}(hW:G1 X ar)(hk:(st.aU X.me.ws).aL=3):FI X ar (n+1) (bI X.me.ws E fa st) st:=by
 have hr:bI X.me.ws E fa st=nT X.me.ws st:=by unfold bI;rw [if_pos hk]
 rw [hr];intro sc vv F K w h;have hi:=h.lt
 have uV:(st.i:Int)<(X.me.ws.length:Int):=by omega
 obtain⟨c1,c6,cl,cf,q0,q1,q2,gl,gO⟩:=h.ck.ar hi
 have gm:st.aU X.me.ws=X.me.ws[st.i]:=by unfold PS.aU;simp [List.getD,hi]
 have hne:(st.aU X.me.ws).aL≠0:=by rw [hk];omega
 have ui:=PS.fM hW.last hne hi
 have qZ:(st.next X.me.ws).i=st.i+1:=by show min (st.i+1) (X.me.ws.length-1)=_;omega
 have hlen:=hW.len;have HI:=aa h;have HC:=aa h.ck;have HW:=aa hW;have oG:=aa qZ
 have hw:(dV X.me.ws[st.i]).aeh=100:=by have:=vp X.me.ws[st.i];rw [<-gm,hk]at this;rw [<-gm];simpa using this
 rw [hw]at q0;have eJ:=aa (show nT X.me.ws st=(⟨0,(st.aU X.me.ws).ai,[],fL (st.aU X.me.ws).aX,[]⟩,st.next X.me.ws)from rfl);clear h hr hw hk gm hne hW qZ;generalize X.me.ws[st.i]=x at*
 go_enter func270,ntmps270
 go_wp2_with fail
 go_region
 all_goals
  go_wp2;go_ret;rw [eJ.o];have iX:=HC.o.took #[.int .u8 100,.string ⟨x.aX.toArray⟩,.int .i64 x.ai];refine⟨1,[],[],K,rfl,iX.1,?_,(Ty.aas ar sc _ _).mono ?_,?_,?_,λy=>by simp,?_,rfl⟩
  ·rw [List.append_nil]
   show Ck X (st.next X.me.ws).i F _ _;rw [oG.o];exact iX.2.1
  ·show 1<=(st.next X.me.ws).i-st.i;have:=oG.o;omega
  ·show st.i<(st.next X.me.ws).i;have:=oG.o;omega
  ·show(st.next X.me.ws).i<_;have:=oG.o;omega
  ·simp
theorem Iv{ar:gS}(hW:G1 X ar)(hk3:(st.aU X.me.ws).aL≠3)(hk2:(st.aU X.me.ws).aL≠2)(hat:st.aN X.me.ws [[116,114,117,101],[102,97,108,115,101]]=true):FI X ar (n+1) (bI X.me.ws E fa st) st:=by
 have hr:bI X.me.ws E fa st=qK X.me.ws st:=by unfold bI;rw [if_neg hk3,if_neg hk2,if_pos hat]
 rw [hr];intro sc vv F K w h;have hi:=h.lt
 have uV:(st.i:Int)<(X.me.ws.length:Int):=by omega
 obtain⟨c1,c6,cl,cf,q0,q1,q2,gl,gO⟩:=h.ck.ar hi
 have gm:st.aU X.me.ws=X.me.ws[st.i]:=by unfold PS.aU;simp [List.getD,hi]
 have hne:(st.aU X.me.ws).aL≠0:=by rw [jY hat];omega
 have ui:=PS.fM hW.last hne hi
 have qZ:(st.next X.me.ws).i=st.i+1:=by show min (st.i+1) (X.me.ws.length-1)=_;omega
 have hlen:=hW.len;have HI:=aa h;have HC:=aa h.ck;have HW:=aa hW;have oG:=aa qZ;have hk4:(st.aU X.me.ws).aL=4:=jY hat;have SG:=(su (x:=X.me.ws[st.i]) (by rw [<-gm];exact hk4)).1
 have hwi:(((dV X.me.ws[st.i]).aeh:Int)==100)=false:=by simp;omega
 have hor:X.me.ws[st.i].aX= [116,114,117,101]\/X.me.ws[st.i].aX= [102,97,108,115,101]:=by
  rw [<-gm];unfold PS.aN at hat;simp at hat;exact hat.2
 have eJ:=aa (show qK X.me.ws st=(⟨1,(st.aU X.me.ws).ai,[],if(st.aU X.me.ws).aX== [116,114,117,101]then 1 else 0,[]⟩,st.next X.me.ws)from rfl);clear h hr hk3 hk2 hat gm hne hW qZ hk4 SG;generalize (dV X.me.ws[st.i]).aeh=wt at*;generalize X.me.ws[st.i].ai=pl at*;generalize X.me.ws[st.i].aX=tx at*
 rcases hor with rfl|rfl
 all_goals
  go_enter func270,ntmps270
  go_wp2_with fail
  go_region
  all_goals
   go_wp2;go_ret;rw [eJ.o]
   first
   |have iX:=HC.o.took #[.int .u8 wt,.string ⟨#[116,114,117,101]⟩,.int .i64 pl]
    refine⟨2,[],[],K,rfl,iX.1,?_,(Ty.Bt ar sc _ _).mono ?_,?_,?_,λy=>by simp,?_,rfl⟩
    ·rw [List.append_nil]
     show Ck X (st.next X.me.ws).i F _ _;rw [oG.o];exact iX.2.1
    ·show 1<=(st.next X.me.ws).i-st.i;have:=oG.o;omega
    ·show st.i<(st.next X.me.ws).i;have:=oG.o;omega
    ·show(st.next X.me.ws).i<_;have:=oG.o;omega
    ·simp
   |have iX:=HC.o.took #[.int .u8 wt,.string ⟨#[102,97,108,115,101]⟩,.int .i64 pl]
    refine⟨2,[],[],K,rfl,iX.1,?_,(Ty.Bt ar sc _ _).mono ?_,?_,?_,λy=>by simp,?_,rfl⟩
    ·rw [List.append_nil]
     show Ck X (st.next X.me.ws).i F _ _;rw [oG.o];exact iX.2.1
    ·show 1<=(st.next X.me.ws).i-st.i;have:=oG.o;omega
    ·show st.i<(st.next X.me.ws).i;have:=oG.o;omega
    ·show(st.next X.me.ws).i<_;have:=oG.o;omega
    ·simp
theorem Dk{ar:gS}(hE:Dj X ar n 0 E)(hG:dT X.me.ws n E)(hW:G1 X ar)(hk3:(st.aU X.me.ws).aL≠3)(hk2:(st.aU X.me.ws).aL≠2)(ht:st.aN X.me.ws [[116,114,117,101],[102,97,108,115,101]]=false)(hat:st.aN X.me.ws [[40]]=true):FI X ar (n+1) (bI X.me.ws E fa st) st:=by
 have hr:bI X.me.ws E fa st=jP X.me.ws E st:=by unfold bI;rw [if_neg hk3,if_neg hk2,ht,hat];rfl
 rw [hr];intro sc vv F K w h;have hi:=h.lt
 have uV:(st.i:Int)<(X.me.ws.length:Int):=by omega
 obtain⟨c1,c6,cl,cf,q0,q1,q2,gl,gO⟩:=h.ck.ar hi
 have gm:st.aU X.me.ws=X.me.ws[st.i]:=by unfold PS.aU;simp [List.getD,hi]
 have hne:(st.aU X.me.ws).aL≠0:=by rw [jY hat];omega
 have ui:=PS.fM hW.last hne hi
 have qZ:(st.next X.me.ws).i=st.i+1:=by show min (st.i+1) (X.me.ws.length-1)=_;omega
 have hlen:=hW.len;have HI:=aa h;have HC:=aa h.ck;have HW:=aa hW;have oG:=aa qZ;have hk4:(st.aU X.me.ws).aL=4:=jY hat;have SG:=(su (x:=X.me.ws[st.i]) (by rw [<-gm];exact hk4)).1
 have hwi:(((dV X.me.ws[st.i]).aeh:Int)==100)=false:=by simp;omega
 have vK:X.me.ws[st.i].aX= [40]:=by rw [<-gm];exact mz hat
 rw [vK]at q1;obtain⟨s1,hs1⟩:∃s1,s1=st.next X.me.ws:=⟨_,rfl⟩
 have hres:jP X.me.ws E st=(⟨4,(st.aU X.me.ws).ai,[],0,[(E s1).1]⟩,(E s1).2.au X.me.ws [41]):=by rw [hs1];rfl
 have ur:s1.i=st.i+1:=by rw [hs1];exact qZ
 have hm:=h.rem;have g1:=hG s1 (by omega) (by simp only [PS.rem]at hm⊢;omega)
 have f2:((E s1).2.au X.me.ws [41]).aH=false:=by have:=h.f1;rw [hres]at this;exact this
 have x2:=zU hW.last g1.1 f2;have GG:=(g1.2.2 x2.1).1;have HE:=aa hE;have eJ:=aa hres;have JK:=aa x2;have vN:=aa GG;have HM:=aa hm;have qE:=aa ur;clear h hr hk3 hk2 hat ht gm hne hW qZ hk4 SG vK hE hG hs1 hres x2 GG f2 hm ur;generalize (dV X.me.ws[st.i]).aeh=wt at*;generalize X.me.ws[st.i].ai=pl at*
 go_enter func270,ntmps270
 go_wp2_with fail
 go_region
 all_goals
  have iX:=HC.o.took #[.int .u8 wt,.string ⟨#[40]⟩,.int .i64 pl];have pF:=aa iX.1;have nJ:=aa (show Ck X s1.i F (eQ X.all K) _ by rw [qE.o];exact iX.2.1);clear iX
  go_wp2_with fail
  refine(HE.o sc vv s1 F K _ ⟨nJ.o,HI.o.vs.fr pF.o,by have:=HI.o.sc;have:=qE.o;omega,vN.o,JK.o.1,by have:=qE.o;omega,by have hq:=HM.o;have:=qE.o;simp only [PS.rem]at hq⊢;omega,by have:=HI.o.bf;have:=qE.o;omega,by have:=HI.o.bk;have:=qE.o;omega⟩).mono ?_;rintro e w2 ⟨t1,D1,A1,K1,rfl,hf2,hc2,zV,WZ,oT,zW,zX,FB⟩;have mY:=aa (pF.o.trans hf2);have kW:=aa hc2;have Bz:=aa zV;have Ir:=aa zW;have eC:=aa zX;clear hf2 hc2 zV zW zX FB nJ pF c1 c6 cl cf q0 q1 q2;obtain⟨c6,cl,cf⟩:=kW.o.SM;have kY:=aa (kW.o.to ((E s1).2.i+1));have hx2:=JK.o.2.2;go_wp2;go_ret;rw [eJ.o];have ur:=qE.o;have hx:=JK.o.2.1;refine⟨t1,D1,A1,K1,rfl,mY.o.trans kY.o.1,by show Ck X ((E s1).2.au X.me.ws [41]).i _ _ _;rw [hx];exact kY.o.2,(Bz.o.paren _).mono ?_,?_,?_,Ir.o,?_,rfl⟩
  ·show(E s1).2.i-s1.i+1<=((E s1).2.au X.me.ws [41]).i-st.i;omega
  ·show st.i<((E s1).2.au X.me.ws [41]).i;omega
  ·show((E s1).2.au X.me.ws [41]).i<_;omega
  ·have:=eC.o
   show _<=3*(((E s1).2.au X.me.ws [41]).i-st.i)/\_<=_+700*(((E s1).2.au X.me.ws [41]).i-st.i);omega
theorem PJ{ar:gS}(hE:Dj X ar n 3 fa)(hG:dT X.me.ws n fa)(hW:G1 X ar)(hk3:(st.aU X.me.ws).aL≠3)(hk2:(st.aU X.me.ws).aL≠2)(ht:st.aN X.me.ws [[116,114,117,101],[102,97,108,115,101]]=false)(h0:st.aN X.me.ws [[40]]=false)(hat:st.aN X.me.ws [[45]]=true):FI X ar (n+1) (bI X.me.ws E fa st) st:=by
 have hr:bI X.me.ws E fa st=mK X.me.ws fa 13 st:=by unfold bI;rw [if_neg hk3,if_neg hk2,ht,h0,hat];rfl
 rw [hr];intro sc vv F K w h;have hi:=h.lt
 have uV:(st.i:Int)<(X.me.ws.length:Int):=by omega
 obtain⟨c1,c6,cl,cf,q0,q1,q2,gl,gO⟩:=h.ck.ar hi
 have gm:st.aU X.me.ws=X.me.ws[st.i]:=by unfold PS.aU;simp [List.getD,hi]
 have hne:(st.aU X.me.ws).aL≠0:=by rw [jY hat];omega
 have ui:=PS.fM hW.last hne hi
 have qZ:(st.next X.me.ws).i=st.i+1:=by show min (st.i+1) (X.me.ws.length-1)=_;omega
 have hlen:=hW.len;have HI:=aa h;have HC:=aa h.ck;have HW:=aa hW;have oG:=aa qZ;have hk4:(st.aU X.me.ws).aL=4:=jY hat;have SG:=(su (x:=X.me.ws[st.i]) (by rw [<-gm];exact hk4)).1
 have hwi:(((dV X.me.ws[st.i]).aeh:Int)==100)=false:=by simp;omega
 have vK:X.me.ws[st.i].aX= [45]:=by rw [<-gm];exact mz hat
 rw [vK]at q1;obtain⟨s1,hs1⟩:∃s1,s1=st.next X.me.ws:=⟨_,rfl⟩
 have hres:mK X.me.ws fa 13 st=(⟨13,(st.aU X.me.ws).ai,[],0,[(fa s1).1]⟩,(fa s1).2):=by rw [hs1];rfl
 have ur:s1.i=st.i+1:=by rw [hs1];exact qZ
 have hm:=h.rem;have g1:=hG s1 (by omega) (by simp only [PS.rem]at hm⊢;omega)
 have f2:(fa s1).2.aH=false:=by have:=h.f1;rw [hres]at this;exact this
 have GG:=(g1.2.2 f2).1;have HE:=aa hE;have eJ:=aa hres;have oK:=aa f2;have vN:=aa GG;have HM:=aa hm;have qE:=aa ur;clear h hr hk3 hk2 hat ht gm hne hW qZ hk4 SG vK hE hG hs1 hres GG f2 hm ur;generalize (dV X.me.ws[st.i]).aeh=wt at*;generalize X.me.ws[st.i].ai=pl at*
 go_enter func270,ntmps270
 go_wp2_with fail
 go_region
 all_goals
  have iX:=HC.o.took #[.int .u8 wt,.string ⟨#[45]⟩,.int .i64 pl];have pF:=aa iX.1;have nJ:=aa (show Ck X s1.i F (eQ X.all K) _ by rw [qE.o];exact iX.2.1);clear iX
  go_wp2_with fail
  refine(dE HE.o 1 (by omega) 105 rfl (sc:=sc) (vv:=vv) (st:=s1) (F:=F) (K:=K) ⟨nJ.o,HI.o.vs.fr pF.o,by have:=HI.o.sc;have:=qE.o;omega,vN.o,oK.o,by have:=qE.o;omega,by have hq:=HM.o;have:=qE.o;simp only [PS.rem]at hq⊢;omega,by have:=HI.o.bf;have:=qE.o;omega,by have:=HI.o.bk;have:=qE.o;omega⟩).mono ?_;rintro e w2 ⟨t1,D1,A1,K1,rfl,hf2,hc2,zV,WZ,oT,zW,zX,FB⟩;have mY:=aa (pF.o.trans hf2);have kW:=aa hc2;have Bz:=aa zV;have Ir:=aa zW;have eC:=aa zX;clear hf2 hc2 zV zW zX FB nJ pF c1 c6 cl cf q0 q1 q2;go_wp2;go_ret;rw [eJ.o];have ur:=qE.o;refine⟨1,_,A1,K1,rfl,mY.o,kW.o,(Bz.o.sign _ 13 1 1 (by omega)).mono ?_,?_,oT,Ir.o,?_,rfl⟩
  ·show(fa s1).2.i-s1.i+1<=(fa s1).2.i-st.i;omega
  ·show st.i<(fa s1).2.i;omega
  ·have:=eC.o
   have:=bM t1 1 (fa s1).1.ai;show _<=3*((fa s1).2.i-st.i)/\_<=_+700*((fa s1).2.i-st.i);simp only [List.length_append];omega
theorem PK{ar:gS}(hE:Dj X ar n 3 fa)(hG:dT X.me.ws n fa)(hW:G1 X ar)(hk3:(st.aU X.me.ws).aL≠3)(hk2:(st.aU X.me.ws).aL≠2)(ht:st.aN X.me.ws [[116,114,117,101],[102,97,108,115,101]]=false)(h0:st.aN X.me.ws [[40]]=false)(h1:st.aN X.me.ws [[45]]=false)(hat:st.aN X.me.ws [[33]]=true):FI X ar (n+1) (bI X.me.ws E fa st) st:=by
 have hr:bI X.me.ws E fa st=mK X.me.ws fa 14 st:=by unfold bI;rw [if_neg hk3,if_neg hk2,ht,h0,h1,hat];rfl
 rw [hr];intro sc vv F K w h;have hi:=h.lt
 have uV:(st.i:Int)<(X.me.ws.length:Int):=by omega
 obtain⟨c1,c6,cl,cf,q0,q1,q2,gl,gO⟩:=h.ck.ar hi
 have gm:st.aU X.me.ws=X.me.ws[st.i]:=by unfold PS.aU;simp [List.getD,hi]
 have hne:(st.aU X.me.ws).aL≠0:=by rw [jY hat];omega
 have ui:=PS.fM hW.last hne hi
 have qZ:(st.next X.me.ws).i=st.i+1:=by show min (st.i+1) (X.me.ws.length-1)=_;omega
 have hlen:=hW.len;have HI:=aa h;have HC:=aa h.ck;have HW:=aa hW;have oG:=aa qZ;have hk4:(st.aU X.me.ws).aL=4:=jY hat;have SG:=(su (x:=X.me.ws[st.i]) (by rw [<-gm];exact hk4)).1
 have hwi:(((dV X.me.ws[st.i]).aeh:Int)==100)=false:=by simp;omega
 have vK:X.me.ws[st.i].aX= [33]:=by rw [<-gm];exact mz hat
 rw [vK]at q1;obtain⟨s1,hs1⟩:∃s1,s1=st.next X.me.ws:=⟨_,rfl⟩
 have hres:mK X.me.ws fa 14 st=(⟨14,(st.aU X.me.ws).ai,[],0,[(fa s1).1]⟩,(fa s1).2):=by rw [hs1];rfl
 have ur:s1.i=st.i+1:=by rw [hs1];exact qZ
 have hm:=h.rem;have g1:=hG s1 (by omega) (by simp only [PS.rem]at hm⊢;omega)
 have f2:(fa s1).2.aH=false:=by have:=h.f1;rw [hres]at this;exact this
 have GG:=(g1.2.2 f2).1;have HE:=aa hE;have eJ:=aa hres;have oK:=aa f2;have vN:=aa GG;have HM:=aa hm;have qE:=aa ur;clear h hr hk3 hk2 hat ht gm hne hW qZ hk4 SG vK hE hG hs1 hres GG f2 hm ur;generalize (dV X.me.ws[st.i]).aeh=wt at*;generalize X.me.ws[st.i].ai=pl at*
 go_enter func270,ntmps270
 go_wp2_with fail
 go_region
 all_goals
  have iX:=HC.o.took #[.int .u8 wt,.string ⟨#[33]⟩,.int .i64 pl];have pF:=aa iX.1;have nJ:=aa (show Ck X s1.i F (eQ X.all K) _ by rw [qE.o];exact iX.2.1);clear iX
  go_wp2_with fail
  refine(dE HE.o 2 (by omega) 98 rfl (sc:=sc) (vv:=vv) (st:=s1) (F:=F) (K:=K) ⟨nJ.o,HI.o.vs.fr pF.o,by have:=HI.o.sc;have:=qE.o;omega,vN.o,oK.o,by have:=qE.o;omega,by have hq:=HM.o;have:=qE.o;simp only [PS.rem]at hq⊢;omega,by have:=HI.o.bf;have:=qE.o;omega,by have:=HI.o.bk;have:=qE.o;omega⟩).mono ?_;rintro e w2 ⟨t1,D1,A1,K1,rfl,hf2,hc2,zV,WZ,oT,zW,zX,FB⟩;have mY:=aa (pF.o.trans hf2);have kW:=aa hc2;have Bz:=aa zV;have Ir:=aa zW;have eC:=aa zX;clear hf2 hc2 zV zW zX FB nJ pF c1 c6 cl cf q0 q1 q2;go_wp2;go_ret;rw [eJ.o];have ur:=qE.o;refine⟨2,_,A1,K1,rfl,mY.o,kW.o,(Bz.o.sign _ 14 2 2 (by omega)).mono ?_,?_,oT,Ir.o,?_,rfl⟩
  ·show(fa s1).2.i-s1.i+1<=(fa s1).2.i-st.i;omega
  ·show st.i<(fa s1).2.i;omega
  ·have:=eC.o
   have:=bM t1 2 (fa s1).1.ai;show _<=3*((fa s1).2.i-st.i)/\_<=_+700*((fa s1).2.i-st.i);simp only [List.length_append];omega
theorem aci(sc:List (List UInt8×Nat))(j:Nat)(hj:j<sc.reverse.length):(fj sc)[j*3]?=some (.string ⟨(sc.reverse[j]).1.toArray⟩)/\(fj sc)[j*3+1]?=some (.int .u8 (rG (sc.reverse[j]).2)):=by
 unfold fj;generalize sc.reverse=l at*
 induction l generalizing j with
 |nil=>simp at hj
 |cons x r ih=>
  rw [show(x::r).flatMap (λx:List UInt8×Nat=> [Value.string ⟨x.1.toArray⟩,.int .u8 (rG x.2),.int .i64 0])=.string ⟨x.1.toArray⟩:: .int .u8 (rG x.2):: .int .i64 0::r.flatMap (λx:List UInt8×Nat=> [Value.string ⟨x.1.toArray⟩,.int .u8 (rG x.2),.int .i64 0])from rfl]
  cases j with
  |zero=>exact⟨rfl,rfl⟩
  |succ j=>
   have:=ih j (by simpa using hj);rw [show(j+1)*3=j*3+1+1+1 by omega];simpa using this
theorem SU(h:Vs w vv sc)(j:Nat)(hj:j<sc.reverse.length):
  ∃g cap,vv=.slice (some ⟨g,0,none⟩) sc.length cap/\g<w.heap.size/\w.cell? ⟨g,j*3,none⟩=some (.string ⟨(sc.reverse[j]).1.toArray⟩)/\w.cell? ⟨g,j*3+1,none⟩=some (.int .u8 (rG (sc.reverse[j]).2)):=by
 have hl:sc.reverse.length=sc.length:=List.length_reverse
 rcases bZ h.row with⟨rfl,h0⟩|⟨g,cap,rfl,hb,hlt,gO,hc,he⟩
 ·omega
 have:=aci sc j hj;exact⟨g,cap,rfl,hlt,(hc _ (by omega)).trans this.1,(hc _ (by omega)).trans this.2⟩
theorem PL{ar:gS}(hW:G1 X ar)(hk:(st.aU X.me.ws).aL=2)(hno:(st.next X.me.ws).aN X.me.ws [[40]]=false):FI X ar (n+1) (bI X.me.ws E fa st) st:=by
 have hr:bI X.me.ws E fa st=(⟨2,(st.aU X.me.ws).ai,(st.aU X.me.ws).aX,0,[]⟩,st.next X.me.ws):=by unfold bI;rw [if_neg (by omega),if_pos hk];unfold jO;rw [hno];rfl
 rw [hr];intro sc vv F K w h;have hi:=h.lt
 have uV:(st.i:Int)<(X.me.ws.length:Int):=by omega
 obtain⟨c1,c6,cl,cf,q0,q1,q2,gl,gO⟩:=h.ck.ar hi
 have gm:st.aU X.me.ws=X.me.ws[st.i]:=by unfold PS.aU;simp [List.getD,hi]
 have ui:=PS.fM hW.last (s:=st) (by omega) hi
 have qZ:(st.next X.me.ws).i=st.i+1:=by show min (st.i+1) (X.me.ws.length-1)=_;omega
 have hlen:=hW.len;have HI:=aa h;have HC:=aa h.ck;have HW:=aa hW;have oG:=aa qZ;obtain⟨n0,n1,n2,n3,n4,n5⟩:=hW.aZ X.me.ws[st.i] (List.getElem_mem hi) (by rw [<-gm];exact hk)
 have hwi:(((dV X.me.ws[st.i]).aeh:Int)==100)=false:=by
  have a:=vp X.me.ws[st.i];rw [<-gm,hk]at a;rw [<-gm];simp at a⊢;omega
 have eno:=hno;rw [cP,qZ]at eno;rw [gm];have pq:=aa gm;obtain⟨vo,vc,Yw⟩:=ak h.vs.row;subst Yw
 have Mw:sc.length<=1400:=by have:=h.sc;omega
 have Cu:sc.reverse.length=sc.length:=List.length_reverse;clear h hr hk hno gm hW qZ;generalize (dV X.me.ws[st.i]).aeh=wt at*;generalize X.me.ws[st.i]=x at*;obtain⟨s1,hs1⟩:∃s1,s1=st.next X.me.ws:=⟨_,rfl⟩;rw [<-hs1]at oG⊢;obtain⟨tx,vK⟩:∃tx,tx=x.aX:=⟨_,rfl⟩;obtain⟨pl,hpl⟩:∃pl,pl=x.ai:=⟨_,rfl⟩;rw [<-vK]at q1 n0 n1 n2 n3 n4 n5⊢;rw [<-hpl]at q2⊢
 have e1:(tx== [116,114,117,101])=false:=by simpa using n1
 have e2:(tx== [102,97,108,115,101])=false:=by simpa using n2
 have e3:(tx== [45])=false:=by simpa using n3
 have e4:(tx== [33])=false:=by simpa using n4
 have e5:(tx== [40])=false:=by simpa using n5
 have SV:=aa (show pl=(st.aU X.me.ws).ai by rw [hpl,pq.o])
 have ur:s1.i<X.me.ws.length:=by rw [oG.o];omega
 clear hs1 vK hpl pq n0 n1 n2 n3 n4 n5
 go_enter func270,ntmps270
 go_wp2_with fail
 go_region
 all_goals
  have iX:=HC.o.took #[.int .u8 wt,.string ⟨tx.toArray⟩,.int .i64 pl];have pF:=aa iX.1;have nJ:=aa (show Ck X s1.i F (eQ X.all K) _ by rw [oG.o];exact iX.2.1);have eC:=aa iX.2.2;clear iX
  go_wp2_with fail
  refine(cE nJ.o ur [40]).mono ?_;rintro e w2 ⟨rfl,hf2,hc2⟩;rw [show JI X.me.ws s1.i [40]=false by rw [oG.o];exact eno]at hc2⊢;have mY:=aa (pF.o.trans hf2);have kW:=aa (show Ck X s1.i F (eQ X.all K) w2 from hc2);have cU:=aa (hf2.typed eC.o (by decide) (by decide) (by decide));clear hf2 hc2 pF nJ eC c1 c6 cl cf q0 q1 q2 gl
  go_wp2_with fail
  go_loopg [8] sc.length (λnn iv wr=>∃j:Nat,nn+j=sc.length/\iv=.int .i64 j/\Hy (jW tx sc.reverse=jW tx (sc.reverse.drop j))/\Hy (fX X.lo w wr)/\Hy (Ck X s1.i F (eQ X.all K) wr)/\Hy (wr.heap[w.heap.size]?=some (.cells #[.int .u8 wt,.string ⟨tx.toArray⟩,.int .i64 pl] 361 (0,0))))
  case atStart=>exact⟨0,by omega,rfl,aa rfl,mY,kW,cU⟩
  case round=>
   obtain⟨j,hj,rfl,HFv,HR,nG,HB⟩:=hrel;have b1:=ae HB.o 1;have b2:=ae HB.o 2;have bl:=af HB.o;simp at b1 b2;have HV:=aa (HI.o.vs.fr HR.o)
   by_cases hlt:j<sc.reverse.length
   ·have eu:(j:Int)<(sc.length:Int):=by omega
    have hmx:(j:Int)+1<=9223372036854775807:=by omega
    obtain⟨g,cap,hv,eP,d0,d1⟩:=SU HV.o j hlt
    injection hv with v1 v2 v3
    subst v1 v3;have HD:=aa (si hlt);have Gu:=aa (HI.o.vs.t2 (sc.reverse[j]) (List.mem_reverse.1 (List.getElem_mem hlt)));clear v2;generalize sc.reverse[j]=y at*
    rcases he:(y.1==tx)with _|_
    ·have qi:=aa (HFv.o.trans (show jW tx (sc.reverse.drop j)=jW tx (sc.reverse.drop (j+1)) by rw [HD.o];show(if y.1=tx then _ else _)=_;rw [if_neg (by simpa using he)]))
     go_wp2_with fail
     go_quiet (fail)
     have D4:=aa (nG.o.drewN nq);have HRn:=aa (HR.o.drewN nq);have qd:=aa (show(wr.drewN nq).heap[w.heap.size]?=_ from HB.o);go_wp2
     go_roundg (gk-1)
     case measure=>omega
     case rel=>exact⟨j+1,by omega,by go_num,qi,HRn,D4,qd⟩
    ·have qi:=aa (HFv.o.trans (show jW tx (sc.reverse.drop j)=some y.2 by rw [HD.o];show(if y.1=tx then _ else _)=_;rw [if_pos (by simpa using he)]))
     go_wp2_with fail
     go_quiet (fail)
     have D4:=aa (nG.o.drewN nq);have HRn:=aa (HR.o.drewN nq);go_wp2;go_ret;exact⟨y.2,[],[],K,rfl,HRn.o,by rw [List.append_nil];exact D4.o,(Ty.var Gu.o qi.o).mono (by show 1<=s1.i-st.i;have:=oG.o;omega),by show st.i<s1.i;have:=oG.o;omega,ur,λy=>by simp,by simp,SV.o⟩
   ·have eu:¬(j:Int)<(sc.length:Int):=by omega
    have qi:=aa (HFv.o.trans (show jW tx (sc.reverse.drop j)=none by rw [List.drop_eq_nil_of_le (by omega)];rfl))
    go_wp2_with fail
    refine(je nG.o 3 pl (by have:=HI.o.bf;omega)).mono ?_;rintro e w5 ⟨rfl,ma,iO⟩;have HR5:=aa (HR.o.trans ma);have o_:=aa iO;clear ma iO;go_wp2;go_ret;exact⟨0,[(3,pl)],[],K,rfl,HR5.o,o_.o,(Ty.unk qi.o).mono (by show 1<=s1.i-st.i;have:=oG.o;omega),by show st.i<s1.i;have:=oG.o;omega,ur,λy=>by simp,by show [(3,pl)].length<=3*(s1.i-st.i)/\K.length<=K.length+700*(s1.i-st.i);have:=oG.o;simp;omega,SV.o⟩
theorem FJ{ws:List Wd}{m:Nat}{E:PS->Ex×PS}(hG:dT ws m E):∀(n:Nat) (s:PS),s.i<ws.length->s.rem ws<m->(dR ws E n s).2.aH=false->s.aH=false
 |0,s,_,_,h=>h
 |n+1,s,hi,hm,h=>by
  rcases hat:s.aN ws [[44]]with _|_
  ·rw [dR,if_neg (by rw [hat];simp)]at h;exact h
  ·rw [dR,if_pos hat]at h
   have hg:=hG (s.next ws) (PS.cB hi) (ey hm (PS.cj hi));have:=FJ hG n _ hg.1 (ey hm (Nat.le_trans (PS.cj hi) hg.2.1)) h;exact(hg.2.2 this).1
def gg(ws:List Wd)(E:PS->Ex×PS)(n:Nat)(s:PS):List Ex×PS:=((E s).1::(dR ws E n (E s).2).1,(dR ws E n (E s).2).2.au ws [41])
theorem BV(h1:s1.aN ws [[40]]=true)(h:(s1.next ws).aN ws [[41]]=true):dZ ws E s1=([],(s1.next ws).next ws):=by
 unfold dZ;simp only [show s1.au ws [40]=s1.next ws by unfold PS.au;rw [h1];rfl,h,if_true]
theorem BW(h1:s1.aN ws [[40]]=true)(h:(s1.next ws).aN ws [[41]]=false):dZ ws E s1=gg ws E ws.length (s1.next ws):=by
 unfold dZ;simp only [show s1.au ws [40]=s1.next ws by unfold PS.au;rw [h1];rfl,h]
 rfl
theorem wQ(h:(E s).2.aN ws [[41]]=true):gg ws E n s=([(E s).1],(E s).2.next ws):=by
 have LR:(E s).2.aN ws [[44]]=false:=Fl h (by decide)
 have e:dR ws E n (E s).2=([],(E s).2):=by
  cases n with
  |zero=>rfl
  |succ n=>rw [dR,if_neg (by rw [LR];simp)]
 unfold gg;rw [e];simp only [PS.au,h,if_true]
theorem z_(h:(E s).2.aN ws [[44]]=true):gg ws E (n+1) s=((E s).1::(gg ws E n ((E s).2.next ws)).1,(gg ws E n ((E s).2.next ws)).2):=by
 unfold gg;rw [dR,if_pos h]
theorem FK(hG:dT ws m E)(hi:s.i<ws.length)(hm:s.rem ws<m)(h:(gg ws E n s).2.aH=false):(E s).2.aH=false:=by
 have hg:=hG s hi hm;exact FJ hG n _ hg.1 (ey hm hg.2.1) (jC h)
theorem rH(h:(gg ws E n s).2.aH=false)(Aq:(E s).2.aN ws [[41]]=false):(E s).2.aN ws [[44]]=true:=by
 rcases hat:(E s).2.aN ws [[44]]with _|_
 ·have e:dR ws E n (E s).2=([],(E s).2):=by
   cases n with
   |zero=>rfl
   |succ n=>rw [dR,if_neg (by rw [hat];simp)]
  unfold gg at h;rw [e]at h;simp only [PS.au,Aq]at h
  cases h
 rfl
theorem LS(all:List (List UInt8×RM))(n:List UInt8)(l:List lu)(K:List (Nm×Nm)):(jE all n l K).1.length<=K.length+l.length:=by
 induction l generalizing K with
 |nil=>exact Nat.le_refl _
 |cons x r ih=>
  unfold jE;have:=zQ K (x.ag,n)
  split
  ·have:=ih (lU K (x.ag,n));simp only [List.length_cons];omega
  ·simp only [List.length_cons];omega
theorem xx(X:CX)(n:List UInt8)(K:List (Nm×Nm)):(eO X n K).1.length<=K.length+X.me.aq.length:=by
 unfold eO
 split
 ·exact Nat.le_add_right _ _
 exact LS _ _ _ _
theorem JL(h:t=1\/t=2):sT t=rG t:=by rcases h with rfl|rfl<;>rfl
def PM(X:CX)(ar:gS)(sc:List (List UInt8×Nat))(F:List (Nat×Nat))(K:List (Nm×Nm))(i2:Nat)(r:List Ex×PS)(tx:List UInt8)(pl:Nat)(w:World)(e:Ending)(w':World):Prop:=
 ∃t D A K',e=.returned (.int .u8 (rG t))/\fX X.lo w w'/\Ck X r.2.i (F++D) (eQ X.all K') w'/\Ty ar sc ⟨3,pl,tx,0,r.1⟩ t D A (r.2.i-i2+1)/\i2<r.2.i/\r.2.i<X.me.ws.length/\(∀x,x∈K'↔x∈K\/x∈A)/\D.length<=3*(r.2.i-i2)/\K'.length<=K.length+700*(r.2.i-i2)
structure PN (X:CX) (n:Nat) (sc:List (List UInt8×Nat)) (vv:Value) (s1:PS) (F:List (Nat×Nat)) (K:List (Nm×Nm)) (r:List Ex×PS) (w:World):Prop where
 yz:s1.aN X.me.ws [[40]]=true
 nx:(s1.next X.me.ws).i=s1.i+1
 ck:Ck X (s1.next X.me.ws).i F (eQ X.all K) w
 vs:Vs w vv sc
 sc:sc.length<=700+(s1.next X.me.ws).i
 f0:(s1.next X.me.ws).aH=false
 f1:r.2.aH=false
 lt:(s1.next X.me.ws).i<X.me.ws.length
 rem:(s1.next X.me.ws).rem X.me.ws<n
 bf:F.length+3*(X.me.ws.length-(s1.next X.me.ws).i)+6<=900000000
 bk:K.length+700*(X.me.ws.length-(s1.next X.me.ws).i)+1400<=900000000
theorem Xe{ar:gS}(hE:Dj X ar n 0 E)(hG:dT X.me.ws n E)(hW:G1 X ar)(vK:tx≠ [])(xK:ar.sig tx=none)(wt pl:Nat)(h:PN X n sc vv s1 F K (dZ X.me.ws E s1) w):
  Calls prog 282 #[.pointer (some ⟨X.cb,0,none⟩),.agg #[.int .u8 wt,.string ⟨tx.toArray⟩,.int .i64 pl],vv] w (PM X ar sc F K (s1.next X.me.ws).i (dZ X.me.ws E s1) tx pl w):=by
 obtain⟨s2,hs2⟩:∃s2,s2=s1.next X.me.ws:=⟨_,rfl⟩;obtain⟨r,hr⟩:∃r,r=dZ X.me.ws E s1:=⟨_,rfl⟩;have hi:=h.lt
 have Mw:sc.length<=1400:=by have:=h.sc;have:=hW.len;omega
 have HI:=aa h;have HE:=aa hE;have HG:=aa hG;have HW:=aa hW;have mG:=aa vK;have KJ:=aa xK;have hlen:=hW.len;have himp:=hW.nN;have qF:=aa (h.ck.alloc (.cells #[.int .u8 wt,.string ⟨tx.toArray⟩,.int .i64 pl] 361));have pF:=aa ((fX.refl X.lo w).alloc (.cells #[.int .u8 wt,.string ⟨tx.toArray⟩,.int .i64 pl] 361));have eC:=aa (aF w (.cells #[.int .u8 wt,.string ⟨tx.toArray⟩,.int .i64 pl] 361));have NF:=aa (hW.aav tx vK xK K);have xf:=aa (λx=>hW.keys tx vK K x);have HA0:=aa (λhb:s2.aN X.me.ws [[41]]=true=>(show r=([],s2.next X.me.ws) by rw [hr,hs2];exact BV h.yz (by rw [<-hs2];exact hb)));have Ji:=aa (λhb:s2.aN X.me.ws [[41]]=false=>(show r=gg X.me.ws E X.me.ws.length s2 by rw [hr,hs2];exact BW h.yz (by rw [<-hs2];exact hb)));have jX:=h.bk;have Xf:=h.bf;rw [<-hs2]at hi qF jX Xf⊢;rw [<-hr];have vN:=aa (show r.2.aH=false by rw [hr];exact h.f1);have Uv:=aa (show s2.aH=false by rw [hs2];exact h.f0);have SX:=aa (show s2.rem X.me.ws<n by rw [hs2];exact h.rem);have Bg:=aa (show sc.length<=700+s2.i by rw [hs2];exact h.sc);have HVs:=aa h.vs;have qD:=aa jX;have LU:=aa Xf
 have hKs:K.length+X.me.aq.length<=1000000000:=by omega
 have RU:=aa hKs;clear h hE hG hW vK xK HI hs2 hr jX Xf hKs himp
 go_enter func282,ntmps282
 go_wp2_with fail
 refine(xw qF.o HW.o.SJ RU.o tx mG.o).mono ?_;rintro e w2 ⟨f,po,pn,pc,qo,qc,hf,rfl,hf2,hc2,Mz⟩;obtain⟨K1,Iw⟩:∃K1,K1=(eO X tx K).1:=⟨_,rfl⟩;rw [NF.o]at hf;rw [NF.o];rw [<-Iw]at hc2 xf;have Ix:=aa (show K1.length<=K.length+X.me.aq.length by rw [Iw];exact xx X tx K);have L8:=aa hf;clear Iw hf;have mY:=aa (pF.o.trans hf2);have kW:=aa hc2;have cU:=aa (hf2.typed eC.o (by decide) (by decide) (by decide));have HQ2:=aa Mz;clear hf2 hc2 Mz qF pF eC;have z0:=ae cU.o 0;have z1:=ae cU.o 1;have z2:=ae cU.o 2;have zl:=af cU.o;simp at z0 z1 z2
 go_wp2_with fail
 refine(je (kW.o.alloc _) 3 pl (by have:=LU.o;omega)).mono ?_;rintro e w3 ⟨rfl,hf3,hc3⟩;have oB:=aa ((mY.o.alloc (.cells #[.string ⟨f.ag.toArray⟩,.int .i64 f.ai,.bool f.gW,.slice po pn pc,.slice qo f.aef.length qc,.int .u8 f.aL,.int .i64 f.br] 262)).trans hf3);have jl:=aa hc3;have dy:=aa (hf3.typed (aI cU.o (.cells #[.string ⟨f.ag.toArray⟩,.int .i64 f.ai,.bool f.gW,.slice po pn pc,.slice qo f.aef.length qc,.int .u8 f.aL,.int .i64 f.br] 262)) (by decide) (by decide) (by decide));have sI:=aa (hf3.typed (aF w2 (.cells #[.string ⟨f.ag.toArray⟩,.int .i64 f.ai,.bool f.gW,.slice po pn pc,.slice qo f.aef.length qc,.int .u8 f.aL,.int .i64 f.br] 262)) (by decide) (by decide) (by decide));clear hf3 hc3 mY kW cU z0 z1 z2 zl
 go_wp2_with fail
 refine(cE jl.o hi [41]).mono ?_;rintro e w4 ⟨rfl,nR,j'⟩;have AE:=aa (oB.o.trans nR);have iw:=aa (nR.typed dy.o (by decide) (by decide) (by decide));have rV:=aa (nR.typed sI.o (by decide) (by decide) (by decide));obtain⟨b0,hb0⟩:∃b,b=JI X.me.ws s2.i [41]:=⟨_,rfl⟩;rw [<-hb0]at j'⊢
 have oD:=aa (show ∃s:PS,s2.i<=s.i/\s.i<X.me.ws.length/\Ck X s.i ((F++ [(3,pl)])++ []) (eQ X.all K1) w4/\(b0=true->s2.i<s.i)/\(b0=false->s.rem X.me.ws<X.me.ws.length)/\(b0=true/\r=([],s)\/b0=false/\s.aH=false/\r=(([]:List Ex)++(gg X.me.ws E X.me.ws.length s).1,(gg X.me.ws E X.me.ws.length s).2)) by
  rw [List.append_nil]
  rcases hb:b0 with _|_
  ·refine⟨s2,Nat.le_refl _,hi,by rw [hb]at j';exact j',(λh=>by cases h),(λ_=>by simp only [PS.rem];omega),Or.inr ⟨rfl,Uv.o,?_⟩⟩
   rw [Ji.o (by rw [cP,<-hb0,hb])];rfl
  ·have hat:s2.aN X.me.ws [[41]]=true:=by rw [cP,<-hb0,hb]
   have ui:=PS.bX HW.o.last hat hi
   have hn:(s2.next X.me.ws).i=s2.i+1:=by show min (s2.i+1) (X.me.ws.length-1)=_;omega
   refine⟨s2.next X.me.ws,by omega,by omega,by rw [hb]at j';rw [hn];exact j',(λ_=>by omega),(λh=>by cases h),Or.inl ⟨rfl,HA0.o hat⟩⟩)
 clear nR j' hb0 jl oB dy sI
 go_wp2_with fail
 go_loopg [9,10] X.me.ws.length (λnn v9 v10 wr=>∃(b:Bool) (l:List Ex) (s:PS) (D:List (Nat×Nat)) (A:List (Nm×Nm)) (K':List (Nm×Nm)),v9=.int .i64 l.length/\v10=.bool b/\(b=false->s.rem X.me.ws<nn)/\l.length+nn<=X.me.ws.length+1/\Hy (fX X.lo w wr)/\Hy (Ck X s.i ((F++ [(3,pl)])++D) (eQ X.all K') wr)/\
  Hy (wr.heap[w.heap.size]?=some (.cells #[.int .u8 wt,.string ⟨tx.toArray⟩,.int .i64 pl] 361 (0,0)))/\Hy (wr.heap[w2.heap.size]?=some (.cells #[.string ⟨f.ag.toArray⟩,.int .i64 f.ai,.bool f.gW,.slice po pn pc,.slice qo f.aef.length qc,.int .u8 f.aL,.int .i64 f.br] 262 (0,0)))/\Hy (zS ar sc ([]:List Nat) l D A (s.i-s2.i))/\s2.i<=s.i/\s.i<X.me.ws.length/\Hy (∀x,x∈K'↔x∈K1\/x∈A)/\
  Hy (D.length+2*l.length<=3*(s.i-s2.i)/\K'.length+700*l.length<=K1.length+700*(s.i-s2.i)/\(l= []->K'=K1/\D= [])/\(b=true->s2.i<s.i))/\Hy (b=true/\r=(l,s)\/b=false/\s.aH=false/\r=(l++(gg X.me.ws E nn s).1,(gg X.me.ws E nn s).2)))
 case atStart=>
  obtain⟨s,a1,a2,a3,a4,a5,a6⟩:=oD.o;exact⟨b0,[],s,[],[],K1,rfl,rfl,a5,by simp,AE,aa a3,iw,rV,aa (λM _=>cQ.id sc),a1,a2,aa (λx=>by simp),aa ⟨by simp,by simp,λ_=>⟨rfl,rfl⟩,a4⟩,aa a6⟩
 clear oD AE iw rV;obtain⟨b,l,s,D,A,K',rfl,rfl,Ax,Yv,HR,HC,HB,JM,Al,dG,hlt,nI,gQ,PO⟩:=hrel;have y4:=ae JM.o 4;have y5:=ae JM.o 5;have yl:=af JM.o;have x2:=ae HB.o 2;have xl:=af HB.o;simp at y4 y5 x2;have HV:=aa (HVs.o.fr HR.o)
 rcases b with _|_
 ·have MF:=aa (show s.aH=false/\r=(l++(gg X.me.ws E gk s).1,(gg X.me.ws E gk s).2) by rcases PO.o with⟨h,_⟩|⟨_,h⟩;cases h;exact h)
  have LI:=Ax rfl;have M_:=aa (show(gg X.me.ws E gk s).2.aH=false by have h:=vN.o;rw [MF.o.2]at h;exact h);have FL:=aa (show s.rem X.me.ws<n from ey SX.o dG);have iD:=aa (FK HG.o hlt FL.o M_.o);have HGd:=aa (HG.o s hlt FL.o);clear Ax PO
  go_wp2_with fail
  refine(dE HE.o (([]:List Nat).getD l.length 0) (by simp) _ (by simp [rG]) (sc:=sc) (vv:=vv) (st:=s) (F:=(F++ [(3,pl)])++D) (K:=K') ⟨HC.o,HV.o,by have:=Bg.o;omega,MF.o.1,iD.o,hlt,FL.o,by have:=LU.o;have:=gQ.o.1;simp only [List.length_append,List.length_cons,List.length_nil];omega,by have:=qD.o;have:=gQ.o.2.1;have:=Ix.o;have:=HW.o.nN;omega⟩).mono ?_;rintro e w6 ⟨t,D2,A2,K2,rfl,mg,ki,eV,jI,oL,fy,iV,kd⟩;obtain⟨p,hp⟩:∃p,p=(E s).2:=⟨_,rfl⟩;rw [<-hp]at ki eV jI oL iV;have HP:=aa hp;have AL:=aa (HR.o.trans mg);have nO:=aa (show Ck X p.i ((F++ [(3,pl)])++(D++(D2++dY t (([]:List Nat).getD l.length 0) (E s).1.ai))) (eQ X.all K2) w6 by simpa only [List.append_assoc]using ki);have fY:=aa (mg.typed HB.o (by decide) (by decide) (by decide));have D9:=aa (mg.typed JM.o (by decide) (by decide) (by decide));have Cy:=aa (λL (h1:s.i-s2.i<=L) (h2:p.i-s.i<=L)=>Al.o.snoc eV L h1 h2);have tB:=aa (show ∀y,y∈K2↔y∈K1\/y∈A++A2 from λy=>by rw [fy y,nI.o y,List.mem_append,or_assoc])
  have FM:=aa (show(D++(D2++dY t (([]:List Nat).getD l.length 0) (E s).1.ai)).length+2*(l++ [(E s).1]).length<=3*(p.i+1-s2.i)/\K2.length+700*(l++ [(E s).1]).length<=K1.length+700*(p.i+1-s2.i) by
   have:=gQ.o;have:=bM t (([]:List Nat).getD l.length 0) (E s).1.ai;simp only [List.length_append,List.length_cons,List.length_nil];omega)
  clear mg ki eV fy iV kd hp y4 y5 yl x2 xl HC HB JM HR nI gQ
  have Gj:(l.length:Int)+1<=9223372036854775807:=by omega
  go_wp2_with fail
  refine(cE nO.o oL [41]).mono ?_;rintro e w7 ⟨rfl,FN,xh⟩;have MA:=aa (AL.o.trans FN);have vM:=aa (FN.typed fY.o (by decide) (by decide) (by decide));have uh:=aa (FN.typed D9.o (by decide) (by decide) (by decide))
  rcases rY:JI X.me.ws p.i [41]with _|_
  ·have Aq:(E s).2.aN X.me.ws [[41]]=false:=by rw [cP,<-HP.o];exact rY
   have LR:=rH M_.o Aq;have ui:=PS.bX HW.o.last LR (by rw [<-HP.o];exact oL);rw [<-HP.o]at ui
   have gC:(p.next X.me.ws).i=p.i+1:=by show min (p.i+1) (X.me.ws.length-1)=_;omega
   rw [rY]at xh;have yc:=aa (show Ck X p.i ((F++ [(3,pl)])++(D++(D2++dY t (([]:List Nat).getD l.length 0) (E s).1.ai))) (eQ X.all K2) w7 from xh);have oZ:=aa gC;have D8:=aa (λn=>z_ (n:=n) LR);have HPf:=aa (show(p.next X.me.ws).aH=false by rw [HP.o];exact iD.o);obtain⟨c6,cl,cf⟩:=yc.o.SM;have kY:=aa (yc.o.to (p.i+1));have MC:=aa (kY.o.1.typed vM.o (by decide) (by decide) (by decide));have Jg:=aa (kY.o.1.typed uh.o (by decide) (by decide) (by decide));clear FN xh rY Aq LR gC nO AL fY D9;go_wp2
   go_roundg (gk-1)
   case measure=>omega
   case rel=>
    have gC:=oZ.o;refine⟨false,l++ [(E s).1],p.next X.me.ws,_,_,K2,by simp,rfl,(λ_=>by simp only [PS.rem]at LI⊢;omega),by simp only [List.length_append,List.length_cons,List.length_nil];omega,aa (MA.o.trans kY.o.1),aa (by rw [gC];exact kY.o.2),MC,Jg,aa (Cy.o _ (by omega) (by omega)),by omega,by omega,tB,aa ⟨by rw [gC];exact FM.o.1,by rw [gC];exact FM.o.2,(λh=>by simp at h),(λh=>by cases h)⟩,aa (Or.inr ⟨rfl,HPf.o,?_⟩)⟩;obtain⟨m,hm⟩:∃m,gk=m+1:=⟨gk-1,by omega⟩;rw [MF.o.2,hm,D8.o m,<-HP.o];simp
  ·have Aq:(E s).2.aN X.me.ws [[41]]=true:=by rw [cP,<-HP.o];exact rY
   have ui:=PS.bX HW.o.last Aq (by rw [<-HP.o];exact oL);rw [<-HP.o]at ui
   have gC:(p.next X.me.ws).i=p.i+1:=by show min (p.i+1) (X.me.ws.length-1)=_;omega
   rw [rY]at xh;have yc:=aa (show Ck X (p.i+1) ((F++ [(3,pl)])++(D++(D2++dY t (([]:List Nat).getD l.length 0) (E s).1.ai))) (eQ X.all K2) w7 from xh);have oZ:=aa gC;have WK:=aa (λn=>wQ (n:=n) Aq);clear FN xh rY Aq gC nO AL fY D9;go_wp2
   go_roundg (gk-1)
   case measure=>omega
   case rel=>
    have gC:=oZ.o;refine⟨true,l++ [(E s).1],p.next X.me.ws,_,_,K2,by simp,rfl,(λh=>by cases h),by simp only [List.length_append,List.length_cons,List.length_nil];omega,MA,aa (by rw [gC];exact yc.o),vM,uh,aa (Cy.o _ (by omega) (by omega)),by omega,by omega,tB,aa ⟨by rw [gC];exact FM.o.1,by rw [gC];exact FM.o.2,(λh=>by simp at h),(λ_=>by omega)⟩,aa (Or.inl ⟨rfl,?_⟩)⟩;rw [MF.o.2,WK.o gk,<-HP.o]
 have Xg:=aa (show r=(l,s) by rcases PO.o with⟨_,h⟩|⟨h,_⟩;exact h;cases h)
 clear Ax PO;go_wp2;go_ret;rw [Xg.o];have hb:=gQ.o;have Rt:=Ix.o;have himp:=HW.o.nN;refine⟨0,[(3,pl)]++D,(ar.use tx).map fg++A,K',rfl,HR.o,by have:=HC.o;simpa only [List.append_assoc]using this,(Ty.aau KJ.o Al.o),?_,hlt,λx=> ?_,?_,?_⟩
 ·show s2.i<s.i;exact hb.2.2.2 (by first|rfl|trivial)
 ·rw [nI.o,xf.o,List.mem_append,or_assoc]
 ·have:=hb.2.2.2 (by first|rfl|trivial)
  show([(3,pl)]++D).length<=3*(s.i-s2.i);simp only [List.length_append,List.length_cons,List.length_nil]
  rcases l with _|⟨x,l⟩
  ·rw [(hb.2.2.1 (by first|rfl|trivial)).2];simp;omega
  ·have:=hb.1;simp only [List.length_cons]at this;omega
 have:=hb.2.2.2 (by first|rfl|trivial);show K'.length<=K.length+700*(s.i-s2.i)
 rcases l with _|⟨x,l⟩
 ·rw [(hb.2.2.1 (by first|rfl|trivial)).1];omega
 have:=hb.2.1;simp only [List.length_cons]at this;omega
theorem Xh{ar:gS}(hE:Dj X ar n 0 E)(hG:dT X.me.ws n E)(hW:G1 X ar)(vK:tx≠ []){rt:Nat}(xK:ar.sig tx=some (ps,rt))(wt pl:Nat)(h:PN X n sc vv s1 F K (dZ X.me.ws E s1) w):
  Calls prog 282 #[.pointer (some ⟨X.cb,0,none⟩),.agg #[.int .u8 wt,.string ⟨tx.toArray⟩,.int .i64 pl],vv] w (PM X ar sc F K (s1.next X.me.ws).i (dZ X.me.ws E s1) tx pl w):=by
 obtain⟨s2,hs2⟩:∃s2,s2=s1.next X.me.ws:=⟨_,rfl⟩;obtain⟨r,hr⟩:∃r,r=dZ X.me.ws E s1:=⟨_,rfl⟩;have hi:=h.lt
 have Mw:sc.length<=1400:=by have:=h.sc;have:=hW.len;omega
 have HI:=aa h;have HE:=aa hE;have HG:=aa hG;have HW:=aa hW;have mG:=aa vK;have KJ:=aa xK;have hlen:=hW.len;have himp:=hW.nN;have qF:=aa (h.ck.alloc (.cells #[.int .u8 wt,.string ⟨tx.toArray⟩,.int .i64 pl] 361));have pF:=aa ((fX.refl X.lo w).alloc (.cells #[.int .u8 wt,.string ⟨tx.toArray⟩,.int .i64 pl] 361));have eC:=aa (aF w (.cells #[.int .u8 wt,.string ⟨tx.toArray⟩,.int .i64 pl] 361));have NF:=aa (hW.aaw tx vK ps rt xK);have xf:=aa (λx=>hW.keys tx vK K x);have HA0:=aa (λhb:s2.aN X.me.ws [[41]]=true=>(show r=([],s2.next X.me.ws) by rw [hr,hs2];exact BV h.yz (by rw [<-hs2];exact hb)));have Ji:=aa (λhb:s2.aN X.me.ws [[41]]=false=>(show r=gg X.me.ws E X.me.ws.length s2 by rw [hr,hs2];exact BW h.yz (by rw [<-hs2];exact hb)));have jX:=h.bk;have Xf:=h.bf;rw [<-hs2]at hi qF jX Xf⊢;rw [<-hr];have vN:=aa (show r.2.aH=false by rw [hr];exact h.f1);have Uv:=aa (show s2.aH=false by rw [hs2];exact h.f0);have SX:=aa (show s2.rem X.me.ws<n by rw [hs2];exact h.rem);have Bg:=aa (show sc.length<=700+s2.i by rw [hs2];exact h.sc);have HVs:=aa h.vs;have OE:=aa (show X.lo<=w.heap.size/\∀k,X.S k->k<X.lo from⟨by have:=h.ck.Gy;have:=h.ck.lt;omega,h.ck.hS⟩);have qD:=aa jX;have LU:=aa Xf
 have hKs:K.length+X.me.aq.length<=1000000000:=by omega
 have RU:=aa hKs;clear h hE hG hW vK xK HI hs2 hr jX Xf hKs himp
 go_enter func282,ntmps282
 go_wp2_with fail
 refine(xw qF.o HW.o.SJ RU.o tx mG.o).mono ?_;rintro e w2 ⟨f,po,pn,pc,qo,qc,hf,rfl,hf2,hc2,Mz⟩;obtain⟨K1,Iw⟩:∃K1,K1=(eO X tx K).1:=⟨_,rfl⟩;obtain⟨f',e1,e2,e3⟩:=NF.o.2.2 K;rw [e1]at hf;rw [e1];have hff:f=f':=hf;subst hff;simp only [Option.isSome_some];rw [<-Iw]at hc2 xf;have Ix:=aa (show K1.length<=K.length+X.me.aq.length by rw [Iw];exact xx X tx K);have Uw:=aa e2;have HFt:=aa e3;clear Iw hf e1 e2 e3;have mY:=aa (pF.o.trans hf2);have kW:=aa hc2;have cU:=aa (hf2.typed eC.o (by decide) (by decide) (by decide));have HQ2:=aa Mz;clear hf2 hc2 Mz qF pF eC;have z0:=ae cU.o 0;have z1:=ae cU.o 1;have z2:=ae cU.o 2;have zl:=af cU.o;simp at z0 z1 z2;have acj:=aa mY.o;have oB:=aa (mY.o.alloc (.cells #[.string ⟨f.ag.toArray⟩,.int .i64 f.ai,.bool f.gW,.slice po pn pc,.slice qo f.aef.length qc,.int .u8 f.aL,.int .i64 f.br] 262));have jl:=aa (kW.o.alloc (.cells #[.string ⟨f.ag.toArray⟩,.int .i64 f.ai,.bool f.gW,.slice po pn pc,.slice qo f.aef.length qc,.int .u8 f.aL,.int .i64 f.br] 262));have dy:=aa (aI cU.o (.cells #[.string ⟨f.ag.toArray⟩,.int .i64 f.ai,.bool f.gW,.slice po pn pc,.slice qo f.aef.length qc,.int .u8 f.aL,.int .i64 f.br] 262));have sI:=aa (aF w2 (.cells #[.string ⟨f.ag.toArray⟩,.int .i64 f.ai,.bool f.gW,.slice po pn pc,.slice qo f.aef.length qc,.int .u8 f.aL,.int .i64 f.br] 262));have HRt:=aa NF.o.2.1;have HPs:=aa NF.o.1;clear mY kW cU z0 z1 z2 zl NF
 go_wp2_with fail
 refine(cE jl.o hi [41]).mono ?_;rintro e w4 ⟨rfl,nR,j'⟩;have AE:=aa (oB.o.trans nR);have iw:=aa (nR.typed dy.o (by decide) (by decide) (by decide));have rV:=aa (nR.typed sI.o (by decide) (by decide) (by decide));obtain⟨b0,hb0⟩:∃b,b=JI X.me.ws s2.i [41]:=⟨_,rfl⟩;rw [<-hb0]at j'⊢
 have oD:=aa (show ∃s:PS,s2.i<=s.i/\s.i<X.me.ws.length/\Ck X s.i (F++ []) (eQ X.all K1) w4/\(b0=true->s2.i<s.i)/\(b0=false->s.rem X.me.ws<X.me.ws.length)/\(b0=true/\r=([],s)\/b0=false/\s.aH=false/\r=(([]:List Ex)++(gg X.me.ws E X.me.ws.length s).1,(gg X.me.ws E X.me.ws.length s).2)) by
  rw [List.append_nil]
  rcases hb:b0 with _|_
  ·refine⟨s2,Nat.le_refl _,hi,by rw [hb]at j';exact j',(λh=>by cases h),(λ_=>by simp only [PS.rem];omega),Or.inr ⟨rfl,Uv.o,?_⟩⟩
   rw [Ji.o (by rw [cP,<-hb0,hb])];rfl
  ·have hat:s2.aN X.me.ws [[41]]=true:=by rw [cP,<-hb0,hb]
   have ui:=PS.bX HW.o.last hat hi
   have hn:(s2.next X.me.ws).i=s2.i+1:=by show min (s2.i+1) (X.me.ws.length-1)=_;omega
   refine⟨s2.next X.me.ws,by omega,by omega,by rw [hb]at j';rw [hn];exact j',(λ_=>by omega),(λh=>by cases h),Or.inl ⟨rfl,HA0.o hat⟩⟩)
 clear nR j' hb0 jl oB dy sI
 go_wp2_with fail
 go_loopg [9,10] X.me.ws.length (λnn v9 v10 wr=>∃(b:Bool) (l:List Ex) (s:PS) (D:List (Nat×Nat)) (A:List (Nm×Nm)) (K':List (Nm×Nm)),v9=.int .i64 l.length/\v10=.bool b/\(b=false->s.rem X.me.ws<nn)/\l.length+nn<=X.me.ws.length+1/\Hy (fX X.lo w wr)/\Hy (Ck X s.i (F++D) (eQ X.all K') wr)/\
  Hy (wr.heap[w.heap.size]?=some (.cells #[.int .u8 wt,.string ⟨tx.toArray⟩,.int .i64 pl] 361 (0,0)))/\Hy (wr.heap[w2.heap.size]?=some (.cells #[.string ⟨f.ag.toArray⟩,.int .i64 f.ai,.bool f.gW,.slice po pn pc,.slice qo f.aef.length qc,.int .u8 f.aL,.int .i64 f.br] 262 (0,0)))/\Hy (zS ar sc ps l D A (s.i-s2.i))/\s2.i<=s.i/\s.i<X.me.ws.length/\Hy (∀x,x∈K'↔x∈K1\/x∈A)/\
  Hy (D.length+2*l.length<=3*(s.i-s2.i)/\K'.length+700*l.length<=K1.length+700*(s.i-s2.i)/\(l= []->K'=K1/\D= [])/\(b=true->s2.i<s.i))/\Hy (b=true/\r=(l,s)\/b=false/\s.aH=false/\r=(l++(gg X.me.ws E nn s).1,(gg X.me.ws E nn s).2)))
 case atStart=>
  obtain⟨s,a1,a2,a3,a4,a5,a6⟩:=oD.o;exact⟨b0,[],s,[],[],K1,rfl,rfl,a5,by simp,AE,aa a3,iw,rV,aa (λM _=>cQ.id sc),a1,a2,aa (λx=>by simp),aa ⟨by simp,by simp,λ_=>⟨rfl,rfl⟩,a4⟩,aa a6⟩
 clear oD AE iw rV;obtain⟨b,l,s,D,A,K',rfl,rfl,Ax,Yv,HR,HC,HB,JM,Al,dG,hlt,nI,gQ,PO⟩:=hrel;have y4:=ae JM.o 4;have y5:=ae JM.o 5;have yl:=af JM.o;have x2:=ae HB.o 2;have xl:=af HB.o;simp at y4 y5 x2;have HV:=aa (HVs.o.fr HR.o)
 rcases b with _|_
 ·have MF:=aa (show s.aH=false/\r=(l++(gg X.me.ws E gk s).1,(gg X.me.ws E gk s).2) by rcases PO.o with⟨h,_⟩|⟨_,h⟩;cases h;exact h)
  have LI:=Ax rfl;have M_:=aa (show(gg X.me.ws E gk s).2.aH=false by have h:=vN.o;rw [MF.o.2]at h;exact h);have FL:=aa (show s.rem X.me.ws<n from ey SX.o dG);have iD:=aa (FK HG.o hlt FL.o M_.o);have HGd:=aa (HG.o s hlt FL.o);clear Ax PO;have HQr:=aa (HQ2.o.keep (S':=X.S) (w':=wr) λk hS hk=>⟨hS,(HR.o.block k (by have:=OE.o.1;have:=OE.o.2 k hS;omega) (Or.inl (OE.o.2 k hS))).trans (acj.o.block k (by have:=OE.o.1;have:=OE.o.2 k hS;omega) (Or.inl (OE.o.2 k hS))).symm⟩)
  have Iy:f.aef.length=ps.length:=by rw [Uw.o];simp
  by_cases CN:l.length<f.aef.length
  ·have AQ:(l.length:Int)<(f.aef.length:Int):=by omega
   rcases bZ HQr.o.1 with⟨_,h0⟩|⟨gq,cq,hv,_,hgq,_,YK,_⟩
   ·omega
   ·injection hv with v1 v2 v3
    subst v1 v3;have hcell:=YK l.length (by omega);rw [List.getElem?_map,List.getElem?_eq_getElem CN]at hcell;simp only [Option.map_some]at hcell
    have HKw:=aa (show((f.aef[l.length]:Nat):Int)=rG (ps.getD l.length 0) by
     have e:f.aef[l.length]=sT ps[l.length]:=by simp [Uw.o]
     have hg:ps.getD l.length 0=ps[l.length]:=by simp [List.getD,show l.length<ps.length by omega]
     rw [e,hg,JL (HPs.o _ (List.getElem_mem _))])
    have th:=aa (show ps.getD l.length 0<=2 by
     have hg:ps.getD l.length 0=ps[l.length]:=by simp [List.getD,show l.length<ps.length by omega]
     rw [hg]
     rcases HPs.o _ (List.getElem_mem (show l.length<ps.length by omega))with h|h<;>omega)
    have Iz:=aa Iy;clear YK v2 Iy;generalize f.aef[l.length]=kk at*
    go_wp2_with fail
    refine(dE HE.o (ps.getD l.length 0) th.o _ HKw.o (sc:=sc) (vv:=vv) (st:=s) (F:=F++D) (K:=K') ⟨HC.o,HV.o,by have:=Bg.o;omega,MF.o.1,iD.o,hlt,FL.o,by have:=LU.o;have:=gQ.o.1;simp only [List.length_append,List.length_cons,List.length_nil];omega,by have:=qD.o;have:=gQ.o.2.1;have:=Ix.o;have:=HW.o.nN;omega⟩).mono ?_;rintro e w6 ⟨t,D2,A2,K2,rfl,mg,ki,eV,jI,oL,fy,iV,kd⟩;obtain⟨p,hp⟩:∃p,p=(E s).2:=⟨_,rfl⟩;rw [<-hp]at ki eV jI oL iV;have HP:=aa hp;have AL:=aa (HR.o.trans mg);have nO:=aa (show Ck X p.i (F++(D++(D2++dY t (ps.getD l.length 0) (E s).1.ai))) (eQ X.all K2) w6 by simpa only [List.append_assoc]using ki);have fY:=aa (mg.typed HB.o (by decide) (by decide) (by decide));have D9:=aa (mg.typed JM.o (by decide) (by decide) (by decide));have Cy:=aa (λL (h1:s.i-s2.i<=L) (h2:p.i-s.i<=L)=>Al.o.snoc eV L h1 h2);have tB:=aa (show ∀y,y∈K2↔y∈K1\/y∈A++A2 from λy=>by rw [fy y,nI.o y,List.mem_append,or_assoc])
    have FM:=aa (show(D++(D2++dY t (ps.getD l.length 0) (E s).1.ai)).length+2*(l++ [(E s).1]).length<=3*(p.i+1-s2.i)/\K2.length+700*(l++ [(E s).1]).length<=K1.length+700*(p.i+1-s2.i) by
     have:=gQ.o;have:=bM t (ps.getD l.length 0) (E s).1.ai;simp only [List.length_append,List.length_cons,List.length_nil];omega)
    clear mg ki eV fy iV kd hp y4 y5 yl x2 xl HC HB JM HR nI gQ
    have Gj:(l.length:Int)+1<=9223372036854775807:=by omega
    go_wp2_with fail
    refine(cE nO.o oL [41]).mono ?_;rintro e w7 ⟨rfl,FN,xh⟩;have MA:=aa (AL.o.trans FN);have vM:=aa (FN.typed fY.o (by decide) (by decide) (by decide));have uh:=aa (FN.typed D9.o (by decide) (by decide) (by decide))
    rcases rY:JI X.me.ws p.i [41]with _|_
    ·have Aq:(E s).2.aN X.me.ws [[41]]=false:=by rw [cP,<-HP.o];exact rY
     have LR:=rH M_.o Aq;have ui:=PS.bX HW.o.last LR (by rw [<-HP.o];exact oL);rw [<-HP.o]at ui
     have gC:(p.next X.me.ws).i=p.i+1:=by show min (p.i+1) (X.me.ws.length-1)=_;omega
     rw [rY]at xh;have yc:=aa (show Ck X p.i (F++(D++(D2++dY t (ps.getD l.length 0) (E s).1.ai))) (eQ X.all K2) w7 from xh);have oZ:=aa gC;have D8:=aa (λn=>z_ (n:=n) LR);have HPf:=aa (show(p.next X.me.ws).aH=false by rw [HP.o];exact iD.o);obtain⟨c6,cl,cf⟩:=yc.o.SM;have kY:=aa (yc.o.to (p.i+1));have MC:=aa (kY.o.1.typed vM.o (by decide) (by decide) (by decide));have Jg:=aa (kY.o.1.typed uh.o (by decide) (by decide) (by decide));clear FN xh rY Aq LR gC nO AL fY D9;go_wp2
     go_roundg (gk-1)
     case measure=>omega
     case rel=>
      have gC:=oZ.o;refine⟨false,l++ [(E s).1],p.next X.me.ws,_,_,K2,by simp,rfl,(λ_=>by simp only [PS.rem]at LI⊢;omega),by simp only [List.length_append,List.length_cons,List.length_nil];omega,aa (MA.o.trans kY.o.1),aa (by rw [gC];exact kY.o.2),MC,Jg,aa (Cy.o _ (by omega) (by omega)),by omega,by omega,tB,aa ⟨by rw [gC];exact FM.o.1,by rw [gC];exact FM.o.2,(λh=>by simp at h),(λh=>by cases h)⟩,aa (Or.inr ⟨rfl,HPf.o,?_⟩)⟩;obtain⟨m,hm⟩:∃m,gk=m+1:=⟨gk-1,by omega⟩;rw [MF.o.2,hm,D8.o m,<-HP.o];simp
    ·have Aq:(E s).2.aN X.me.ws [[41]]=true:=by rw [cP,<-HP.o];exact rY
     have ui:=PS.bX HW.o.last Aq (by rw [<-HP.o];exact oL);rw [<-HP.o]at ui
     have gC:(p.next X.me.ws).i=p.i+1:=by show min (p.i+1) (X.me.ws.length-1)=_;omega
     rw [rY]at xh;have yc:=aa (show Ck X (p.i+1) (F++(D++(D2++dY t (ps.getD l.length 0) (E s).1.ai))) (eQ X.all K2) w7 from xh);have oZ:=aa gC;have WK:=aa (λn=>wQ (n:=n) Aq);clear FN xh rY Aq gC nO AL fY D9;go_wp2
     go_roundg (gk-1)
     case measure=>omega
     case rel=>
      have gC:=oZ.o;refine⟨true,l++ [(E s).1],p.next X.me.ws,_,_,K2,by simp,rfl,(λh=>by cases h),by simp only [List.length_append,List.length_cons,List.length_nil];omega,MA,aa (by rw [gC];exact yc.o),vM,uh,aa (Cy.o _ (by omega) (by omega)),by omega,by omega,tB,aa ⟨by rw [gC];exact FM.o.1,by rw [gC];exact FM.o.2,(λh=>by simp at h),(λ_=>by omega)⟩,aa (Or.inl ⟨rfl,?_⟩)⟩;rw [MF.o.2,WK.o gk,<-HP.o]
  ·have AQ:¬(l.length:Int)<(f.aef.length:Int):=by omega
   have HKw:=aa (show(97:Int)=rG (ps.getD l.length 0) by
    have hg:ps.getD l.length 0=0:=by simp [List.getD,show ps.length<=l.length by omega]
    rw [hg];rfl)
   have th:=aa (show ps.getD l.length 0<=2 by
    have hg:ps.getD l.length 0=0:=by simp [List.getD,show ps.length<=l.length by omega]
    rw [hg];omega)
   have Iz:=aa Iy;clear Iy
   go_wp2_with fail
   refine(dE HE.o (ps.getD l.length 0) th.o _ HKw.o (sc:=sc) (vv:=vv) (st:=s) (F:=F++D) (K:=K') ⟨HC.o,HV.o,by have:=Bg.o;omega,MF.o.1,iD.o,hlt,FL.o,by have:=LU.o;have:=gQ.o.1;simp only [List.length_append,List.length_cons,List.length_nil];omega,by have:=qD.o;have:=gQ.o.2.1;have:=Ix.o;have:=HW.o.nN;omega⟩).mono ?_;rintro e w6 ⟨t,D2,A2,K2,rfl,mg,ki,eV,jI,oL,fy,iV,kd⟩;obtain⟨p,hp⟩:∃p,p=(E s).2:=⟨_,rfl⟩;rw [<-hp]at ki eV jI oL iV;have HP:=aa hp;have AL:=aa (HR.o.trans mg);have nO:=aa (show Ck X p.i (F++(D++(D2++dY t (ps.getD l.length 0) (E s).1.ai))) (eQ X.all K2) w6 by simpa only [List.append_assoc]using ki);have fY:=aa (mg.typed HB.o (by decide) (by decide) (by decide));have D9:=aa (mg.typed JM.o (by decide) (by decide) (by decide));have Cy:=aa (λL (h1:s.i-s2.i<=L) (h2:p.i-s.i<=L)=>Al.o.snoc eV L h1 h2);have tB:=aa (show ∀y,y∈K2↔y∈K1\/y∈A++A2 from λy=>by rw [fy y,nI.o y,List.mem_append,or_assoc])
   have FM:=aa (show(D++(D2++dY t (ps.getD l.length 0) (E s).1.ai)).length+2*(l++ [(E s).1]).length<=3*(p.i+1-s2.i)/\K2.length+700*(l++ [(E s).1]).length<=K1.length+700*(p.i+1-s2.i) by
    have:=gQ.o;have:=bM t (ps.getD l.length 0) (E s).1.ai;simp only [List.length_append,List.length_cons,List.length_nil];omega)
   clear mg ki eV fy iV kd hp y4 y5 yl x2 xl HC HB JM HR nI gQ
   have Gj:(l.length:Int)+1<=9223372036854775807:=by omega
   go_wp2_with fail
   refine(cE nO.o oL [41]).mono ?_;rintro e w7 ⟨rfl,FN,xh⟩;have MA:=aa (AL.o.trans FN);have vM:=aa (FN.typed fY.o (by decide) (by decide) (by decide));have uh:=aa (FN.typed D9.o (by decide) (by decide) (by decide))
   rcases rY:JI X.me.ws p.i [41]with _|_
   ·have Aq:(E s).2.aN X.me.ws [[41]]=false:=by rw [cP,<-HP.o];exact rY
    have LR:=rH M_.o Aq;have ui:=PS.bX HW.o.last LR (by rw [<-HP.o];exact oL);rw [<-HP.o]at ui
    have gC:(p.next X.me.ws).i=p.i+1:=by show min (p.i+1) (X.me.ws.length-1)=_;omega
    rw [rY]at xh;have yc:=aa (show Ck X p.i (F++(D++(D2++dY t (ps.getD l.length 0) (E s).1.ai))) (eQ X.all K2) w7 from xh);have oZ:=aa gC;have D8:=aa (λn=>z_ (n:=n) LR);have HPf:=aa (show(p.next X.me.ws).aH=false by rw [HP.o];exact iD.o);obtain⟨c6,cl,cf⟩:=yc.o.SM;have kY:=aa (yc.o.to (p.i+1));have MC:=aa (kY.o.1.typed vM.o (by decide) (by decide) (by decide));have Jg:=aa (kY.o.1.typed uh.o (by decide) (by decide) (by decide));clear FN xh rY Aq LR gC nO AL fY D9;go_wp2
    go_roundg (gk-1)
    case measure=>omega
    case rel=>
     have gC:=oZ.o;refine⟨false,l++ [(E s).1],p.next X.me.ws,_,_,K2,by simp,rfl,(λ_=>by simp only [PS.rem]at LI⊢;omega),by simp only [List.length_append,List.length_cons,List.length_nil];omega,aa (MA.o.trans kY.o.1),aa (by rw [gC];exact kY.o.2),MC,Jg,aa (Cy.o _ (by omega) (by omega)),by omega,by omega,tB,aa ⟨by rw [gC];exact FM.o.1,by rw [gC];exact FM.o.2,(λh=>by simp at h),(λh=>by cases h)⟩,aa (Or.inr ⟨rfl,HPf.o,?_⟩)⟩;obtain⟨m,hm⟩:∃m,gk=m+1:=⟨gk-1,by omega⟩;rw [MF.o.2,hm,D8.o m,<-HP.o];simp
   ·have Aq:(E s).2.aN X.me.ws [[41]]=true:=by rw [cP,<-HP.o];exact rY
    have ui:=PS.bX HW.o.last Aq (by rw [<-HP.o];exact oL);rw [<-HP.o]at ui
    have gC:(p.next X.me.ws).i=p.i+1:=by show min (p.i+1) (X.me.ws.length-1)=_;omega
    rw [rY]at xh;have yc:=aa (show Ck X (p.i+1) (F++(D++(D2++dY t (ps.getD l.length 0) (E s).1.ai))) (eQ X.all K2) w7 from xh);have oZ:=aa gC;have WK:=aa (λn=>wQ (n:=n) Aq);clear FN xh rY Aq gC nO AL fY D9;go_wp2
    go_roundg (gk-1)
    case measure=>omega
    case rel=>
     have gC:=oZ.o;refine⟨true,l++ [(E s).1],p.next X.me.ws,_,_,K2,by simp,rfl,(λh=>by cases h),by simp only [List.length_append,List.length_cons,List.length_nil];omega,MA,aa (by rw [gC];exact yc.o),vM,uh,aa (Cy.o _ (by omega) (by omega)),by omega,by omega,tB,aa ⟨by rw [gC];exact FM.o.1,by rw [gC];exact FM.o.2,(λh=>by simp at h),(λ_=>by omega)⟩,aa (Or.inl ⟨rfl,?_⟩)⟩;rw [MF.o.2,WK.o gk,<-HP.o]
 have Xg:=aa (show r=(l,s) by rcases PO.o with⟨_,h⟩|⟨h,_⟩;exact h;cases h)
 clear Ax PO
 have Iy:f.aef.length=ps.length:=by rw [Uw.o];simp
 have SY:=aa (show rt<=2/\((f.aL:Nat):Int)=rG rt by rw [HFt.o,JL HRt.o];rcases HRt.o with h|h<;>(refine⟨by omega,rfl⟩))
 have hb:=gQ.o;have Xi:=aa hb
 by_cases CN:l.length=f.aef.length
 ·have AQ:(l.length:Int)=(f.aef.length:Int):=by omega
  have hne:((l.length:Int) !=(f.aef.length:Int))=false:=by simp [AQ]
  have HL:=aa (show l.length=ps.length by omega);clear hb Iy CN AQ;go_wp2;go_ret;rw [Xg.o];have hb:=Xi.o;have Rt:=Ix.o;have himp:=HW.o.nN;have pY:=hb.2.2.2 (by first|rfl|trivial);refine⟨rt,_,(ar.use tx).map fg++A,K',by rw [<-SY.o.2];rfl,HR.o,?_,(Ty.Ur (p:=pl) KJ.o SY.o.1 Al.o),pY,hlt,λx=> ?_,?_,?_⟩
  ·rw [if_pos HL.o,List.append_nil];exact HC.o
  ·rw [nI.o,xf.o,List.mem_append,or_assoc]
  ·rw [if_pos HL.o,List.append_nil];show D.length<=3*(s.i-s2.i);omega
  ·show K'.length<=K.length+700*(s.i-s2.i)
   rcases l with _|⟨x,l⟩
   ·rw [(hb.2.2.1 (by first|rfl|trivial)).1];omega
   ·have:=hb.2.1;simp only [List.length_cons]at this;omega
 have AQ:¬(l.length:Int)=(f.aef.length:Int):=by omega
 have hne:((l.length:Int) !=(f.aef.length:Int))=true:=by simp [AQ]
 have HL:=aa (show ¬l.length=ps.length by omega);clear hb Iy CN AQ
 go_wp2_with fail
 refine(je HC.o 7 pl (by have:=LU.o;have:=Xi.o.1;simp only [List.length_append];omega)).mono ?_;rintro e w9 ⟨rfl,hf9,hc9⟩;have HR9:=aa (HR.o.trans hf9);have HC9:=aa hc9;have Un:=aa (hf9.typed JM.o (by decide) (by decide) (by decide));clear hf9 hc9 y4 y5 yl x2 xl;have y5:=ae Un.o 5;have yl:=af Un.o;simp at y5;go_wp2;go_ret;rw [Xg.o];have hb:=Xi.o;have Rt:=Ix.o;have himp:=HW.o.nN;have pY:=hb.2.2.2 (by first|rfl|trivial);refine⟨rt,_,(ar.use tx).map fg++A,K',by rw [<-SY.o.2];rfl,HR9.o,?_,(Ty.Ur (p:=pl) KJ.o SY.o.1 Al.o),pY,hlt,λx=> ?_,?_,?_⟩
 ·rw [if_neg HL.o,<-List.append_assoc];exact HC9.o
 ·rw [nI.o,xf.o,List.mem_append,or_assoc]
 ·rw [if_neg HL.o]
  show(D++ [(7,pl)]).length<=3*(s.i-s2.i);simp only [List.length_append,List.length_cons,List.length_nil]
  rcases l with _|⟨x,l⟩
  ·rw [(hb.2.2.1 (by first|rfl|trivial)).2];simp;omega
  ·have:=hb.1;simp only [List.length_cons]at this;omega
 show K'.length<=K.length+700*(s.i-s2.i)
 rcases l with _|⟨x,l⟩
 ·rw [(hb.2.2.1 (by first|rfl|trivial)).1];omega
 have:=hb.2.1;simp only [List.length_cons]at this;omega
theorem LV{ar:gS}(hE:Dj X ar n 0 E)(hG:dT X.me.ws n E)(hW:G1 X ar)(hk:(st.aU X.me.ws).aL=2)(hno:(st.next X.me.ws).aN X.me.ws [[40]]=true):FI X ar (n+1) (bI X.me.ws E fa st) st:=by
 have hr:bI X.me.ws E fa st=(⟨3,(st.aU X.me.ws).ai,(st.aU X.me.ws).aX,0,(dZ X.me.ws E (st.next X.me.ws)).1⟩,(dZ X.me.ws E (st.next X.me.ws)).2):=by unfold bI;rw [if_neg (by omega),if_pos hk];unfold jO;rw [hno];rfl
 rw [hr];intro sc vv F K w h;have hi:=h.lt
 have uV:(st.i:Int)<(X.me.ws.length:Int):=by omega
 obtain⟨c1,c6,cl,cf,q0,q1,q2,gl,gO⟩:=h.ck.ar hi
 have gm:st.aU X.me.ws=X.me.ws[st.i]:=by unfold PS.aU;simp [List.getD,hi]
 have ui:=PS.fM hW.last (s:=st) (by omega) hi
 have qZ:(st.next X.me.ws).i=st.i+1:=by show min (st.i+1) (X.me.ws.length-1)=_;omega
 have hlen:=hW.len;have HI:=aa h;have HE:=aa hE;have HG:=aa hG;have F4:=aa hno;have Uv:=aa h.f0;have HC:=aa h.ck;have HW:=aa hW;have oG:=aa qZ;obtain⟨n0,n1,n2,n3,n4,n5⟩:=hW.aZ X.me.ws[st.i] (List.getElem_mem hi) (by rw [<-gm];exact hk)
 have hwi:(((dV X.me.ws[st.i]).aeh:Int)==100)=false:=by
  have a:=vp X.me.ws[st.i];rw [<-gm,hk]at a;rw [<-gm];simp at a⊢;omega
 have eno:=hno;rw [cP,qZ]at eno;rw [gm];have pq:=aa gm;obtain⟨vo,vc,Yw⟩:=ak h.vs.row;subst Yw
 have Mw:sc.length<=1400:=by have:=h.sc;omega
 have Cu:sc.reverse.length=sc.length:=List.length_reverse;clear h hr hk hno gm hW qZ hE hG;generalize (dV X.me.ws[st.i]).aeh=wt at*;generalize X.me.ws[st.i]=x at*;obtain⟨s1,hs1⟩:∃s1,s1=st.next X.me.ws:=⟨_,rfl⟩;rw [<-hs1]at oG F4⊢;have ack:=aa (show s1.aH=false by rw [hs1];exact Uv.o);have PO:=aa (show(dZ X.me.ws E s1).2.aH=false by rw [hs1];exact HI.o.f1);obtain⟨tx,vK⟩:∃tx,tx=x.aX:=⟨_,rfl⟩;obtain⟨pl,hpl⟩:∃pl,pl=x.ai:=⟨_,rfl⟩;rw [<-vK]at q1 n0 n1 n2 n3 n4 n5⊢;rw [<-hpl]at q2⊢
 have e1:(tx== [116,114,117,101])=false:=by simpa using n1
 have e2:(tx== [102,97,108,115,101])=false:=by simpa using n2
 have e3:(tx== [45])=false:=by simpa using n3
 have e4:(tx== [33])=false:=by simpa using n4
 have e5:(tx== [40])=false:=by simpa using n5
 have SV:=aa (show pl=(st.aU X.me.ws).ai by rw [hpl,pq.o])
 have ur:s1.i<X.me.ws.length:=by rw [oG.o];omega
 have Ux:=aa n0;clear hs1 vK hpl pq n0 n1 n2 n3 n4 n5
 go_enter func270,ntmps270
 go_wp2_with fail
 go_region
 all_goals
  have iX:=HC.o.took #[.int .u8 wt,.string ⟨tx.toArray⟩,.int .i64 pl];have pF:=aa iX.1;have nJ:=aa (show Ck X s1.i F (eQ X.all K) _ by rw [oG.o];exact iX.2.1);have eC:=aa iX.2.2;clear iX
  go_wp2_with fail
  refine(cE nJ.o ur [40]).mono ?_;rintro e w2 ⟨rfl,hf2,hc2⟩;rw [show JI X.me.ws s1.i [40]=true by rw [oG.o];exact eno]at hc2⊢;have mY:=aa (pF.o.trans hf2);have kW:=aa (show Ck X (s1.i+1) F (eQ X.all K) w2 from hc2);have cU:=aa (hf2.typed eC.o (by decide) (by decide) (by decide));clear hf2 hc2 pF nJ eC c1 c6 cl cf q0 q1 q2 gl;have adF:=PS.bX HW.o.last F4.o ur
  have gC:(s1.next X.me.ws).i=s1.i+1:=by show min (s1.i+1) (X.me.ws.length-1)=_;omega
  have b0:=ae cU.o 0;have b1:=ae cU.o 1;have b2:=ae cU.o 2;have bl:=af cU.o;simp at b0 b1 b2;have HCI:=aa (show PN X n sc (.slice vo sc.length vc) s1 F K (dZ X.me.ws E s1) w2 from⟨F4.o,gC,by rw [gC];exact kW.o,HI.o.vs.fr mY.o,by have:=HI.o.sc;have:=oG.o;omega,ack.o,PO.o,by omega,by have hq:=HI.o.rem;have:=oG.o;simp only [PS.rem]at hq⊢;omega,by have:=HI.o.bf;have:=oG.o;omega,by have:=HI.o.bk;have:=oG.o;omega⟩);have oZ:=aa gC;clear gC
  have A7:=aa (show Calls prog 282 #[.pointer (some ⟨X.cb,0,none⟩),.agg #[.int .u8 wt,.string ⟨tx.toArray⟩,.int .i64 pl],.slice vo sc.length vc] w2 (PM X ar sc F K (s1.next X.me.ws).i (dZ X.me.ws E s1) tx pl w2) by
   rcases hs:ar.sig tx with _|⟨ps,rt⟩
   ·exact Xe HE.o HG.o HW.o Ux.o hs wt pl HCI.o
   ·exact Xh HE.o HG.o HW.o Ux.o hs wt pl HCI.o)
  go_wp2_with fail
  refine A7.o.mono ?_;rintro e w3 ⟨t,D,A,K',rfl,hf3,hc3,xd,kP,iY,D6,sG,jX⟩;have oB:=aa (mY.o.trans hf3);have jl:=aa hc3;have pL:=aa xd;have nI:=aa D6;have pZ:=aa (show D.length<=3*((dZ X.me.ws E s1).2.i-st.i)/\K'.length<=K.length+700*((dZ X.me.ws E s1).2.i-st.i) by have:=oZ.o;have:=oG.o;omega);have Du:=aa kP;clear hf3 hc3 xd D6 sG jX kP;go_wp2;go_ret;exact⟨t,D,A,K',rfl,oB.o,jl.o,pL.o.mono (by show(dZ X.me.ws E s1).2.i-(s1.next X.me.ws).i+1<=(dZ X.me.ws E s1).2.i-st.i;have:=oZ.o;have:=oG.o;have:=Du.o;omega),by show st.i<(dZ X.me.ws E s1).2.i;have:=oZ.o;have:=oG.o;have:=Du.o;omega,iY,nI.o,pZ.o,SV.o⟩
theorem acm{ar:gS}(h:∀st,SK X ar m (R st) st):Dj X ar m 0 R:=by
 intro sc vv st F K w hi;have HW:=aa (h st sc vv F K w hi);clear h hi
 go_enter func240,ntmps240
 go_wp2_with fail
 refine HW.o.mono ?_;rintro e w1 ⟨t,D,A,K',rfl,FO⟩;have HR:=aa FO;clear FO;go_wp2;go_ret;exact⟨t,D,A,K',rfl,HR.o⟩
theorem acn{ar:gS}(h:∀st,FI X ar m (R st) st):Dj X ar m 3 R:=by
 intro sc vv st F K w hi;have HW:=aa (h st sc vv F K w hi);clear h hi
 go_enter func240,ntmps240
 go_wp2_with fail
 refine HW.o.mono ?_;rintro e w1 ⟨t,D,A,K',rfl,FO⟩;have HR:=aa FO;clear FO;go_wp2;go_ret;exact⟨t,D,A,K',rfl,HR.o⟩
theorem PQ{X:CX}{ar:gS}(hW:G1 X ar)(hl:eR X.me.ws):∀n,Dj X ar n 0 (rd X.me.ws n).1/\Dj X ar n 3 (rd X.me.ws n).2
 |0=>⟨λsc vv st F K w h=>absurd h.rem (by omega),λsc vv st F K w h=>absurd h.rem (by omega)⟩
 |n+1=>by
  obtain⟨iE,iF⟩:=PQ hW hl n;obtain⟨gE,gF⟩:=x_ hl n;have gF1:=(x_ hl (n+1)).2
  have h3:Dj X ar (n+1) 3 (bI X.me.ws (rd X.me.ws n).1 (rd X.me.ws n).2):=acn λst=>by
   by_cases k3:(st.aU X.me.ws).aL=3
   ·exact PI hW k3
   by_cases k2:(st.aU X.me.ws).aL=2
   ·rcases hc:(st.next X.me.ws).aN X.me.ws [[40]]with _|_
    ·exact PL hW k2 hc
    ·exact LV iE gE hW k2 hc
   rcases ht:st.aN X.me.ws [[116,114,117,101],[102,97,108,115,101]]with _|_
   ·rcases h40:st.aN X.me.ws [[40]]with _|_
    ·rcases h45:st.aN X.me.ws [[45]]with _|_
     ·rcases h33:st.aN X.me.ws [[33]]with _|_
      ·intro sc vv F K w h
       have hf:=h.f1;rw [show bI X.me.ws (rd X.me.ws n).1 (rd X.me.ws n).2 st=(tJ,st.fail X.me.ws) by unfold bI;rw [if_neg k3,if_neg k2,ht,h40,h45,h33];rfl]at hf
       cases hf
      ·exact PK iF gF hW k3 k2 ht h40 h45 h33
     ·exact PJ iF gF hW k3 k2 ht h40 h45
    ·exact Dk iE gE hW k3 k2 ht h40
   ·exact Iv hW k3 k2 ht
  have h2:=Ip h3 gF1 hW;have h1:=Iq h2 (mU hl gF1 _) hW;refine⟨acm λst=> ?_,h3⟩
  rcases a1:st.aN X.me.ws [[105,102]]with _|_
  ·rcases a2:st.aN X.me.ws [[108,101,116]]with _|_
   ·exact LP h1 (mU hl (mU hl gF1 _) _) hW a1 a2
   ·exact LQ iE gE hW a1 a2
  ·exact P9 iE gE hW a1
def oH:List (List UInt8)->List (List UInt8×Nat)->List (Nat×Nat)
 |_,[]=> []
 |L,x::r=>(if x.1∈L then [(5,x.2)]else [])++oH (L++ [x.1]) r
theorem PR(L:List (List UInt8))(r:List (List UInt8×Nat))(x:List UInt8×Nat):oH L (r++ [x])=oH L r++(if x.1∈L++r.map Prod.fst then [(5,x.2)]else []):=by
 induction r generalizing L with
 |nil=>simp [oH]
 |cons y q ih=>
  show(if y.1∈L then _ else _)++oH (L++ [y.1]) (q++ [x])=((if y.1∈L then _ else _)++oH (L++ [y.1]) q)++_;rw [ih];simp only [List.append_assoc,List.map_cons,List.cons_append,List.nil_append]
theorem vB(L:List (List UInt8))(r:List (List UInt8×Nat)):(oH L r).length<=r.length:=by
 induction r generalizing L with
 |nil=>exact Nat.le_refl _
 |cons y q ih=>
  have:=ih (L++ [y.1]);simp only [oH,List.length_append,List.length_cons]
  split<;>simp<;>omega
theorem PT(l:List (List UInt8×Nat))(j:Nat)(hj:j<l.length):(cD l)[j*2]?=some (.string ⟨l[j].1.toArray⟩)/\(cD l)[j*2+1]?=some (.int .i64 l[j].2):=by
 induction l generalizing j with
 |nil=>simp at hj
 |cons x r ih=>
  rw [show cD (x::r)=.string ⟨x.1.toArray⟩:: .int .i64 x.2::cD r from rfl]
  cases j with
  |zero=>exact⟨rfl,rfl⟩
  |succ j=>
   have:=ih j (by simpa using hj);rw [show(j+1)*2=j*2+1+1 by omega];simpa using this
theorem sw(h:w.ownsRow b 260 2 v l.length (cD l))(j:Nat)(hj:j<l.length):
  ∃g cap,v=.slice (some ⟨g,0,none⟩) l.length cap/\g<w.heap.size/\∀k (hk:k<l.length),w.cell? ⟨g,k*2,none⟩=some (.string ⟨l[k].1.toArray⟩)/\w.cell? ⟨g,k*2+1,none⟩=some (.int .i64 l[k].2):=by
 rcases bZ h with⟨rfl,h0⟩|⟨g,cap,rfl,hb,hlt,gO,hc,he⟩
 ·omega
 exact⟨g,cap,rfl,hlt,λk hk=>⟨(hc _ (by omega)).trans (PT l k hk).1,(hc _ (by omega)).trans (PT l k hk).2⟩⟩
theorem pG(c:Nat)(w:World):Calls prog 190 #[.int .i64 c] w λe w'=>e=.returned (.int .i64 (ew c))/\w'=w:=by
 have hx:c=5\/c=6\/c=3\/c=7\/(¬c=5/\¬c=6/\¬c=3/\¬c=7):=by omega
 rcases hx with rfl|rfl|rfl|rfl|⟨h5,h6,h3,h7⟩
 case inr.inr.inr.inr=>
  have HO:=aa (show ew c=4 by simp [ew,h5,h6,h3,h7])
  have e5:((c:Int)==5)=false:=by simp;omega
  have e6:((c:Int)==6)=false:=by simp;omega
  have e3:((c:Int)==3)=false:=by simp;omega
  have e7:((c:Int)==7)=false:=by simp;omega
  clear h5 h6 h3 h7
  go_enter func190,ntmps190
  go_wp2;go_ret;exact⟨by rw [HO.o];rfl,rfl⟩
 all_goals
  go_enter func190,ntmps190
  go_wp2;go_ret;exact⟨rfl,rfl⟩
theorem wR(h:Ck X i F U w)(hr:w.ownsRow b 260 2 v l.length (cD l))(hF:F.length+l.length<=1000000000):
  Calls prog 186 #[.pointer (some ⟨X.cb,0,none⟩),v] w λe w'=>e=.returned (.tuple #[])/\fX X.lo w w'/\Ck X i (F++oH [] l) U w':=by
 obtain⟨vo,vc,hv0⟩:=ak hr;subst hv0;have HC:=aa h;have HR:=aa hr;have km:=aa hF
 have rU:l.length<=1000000000:=by omega
 clear h hr hF
 go_enter func186,ntmps186
 go_wp2
 go_loopg [4] l.length (λnn iv wr=>∃j:Nat,nn+j=l.length/\iv=.int .i64 j/\Hy (fX X.lo w wr)/\Hy (Ck X i (F++oH [] (l.take j)) U wr))
 case atStart=>exact⟨0,by omega,rfl,aa (fX.refl _ _),aa (by simpa [oH]using HC.o)⟩
 obtain⟨j,hj,rfl,lO,nG⟩:=hrel;obtain⟨go,hgo⟩:∃x,x=gk:=⟨_,rfl⟩;subst hgo
 by_cases hlt:j<l.length
 ·have eu:(j:Int)<(l.length:Int):=by omega
  have SZ:(j:Int)+1<=9223372036854775807:=by omega
  have cC:=aa (show oH [] (l.take (j+1))=oH [] (l.take j)++(if l[j].1∈(l.take j).map Prod.fst then [(5,l[j].2)]else []) by
   rw [<-List.take_append_getElem hlt,PR,List.nil_append])
  have HMe:=aa (λk (hk:k<j)=>(show(l[k]'(by omega)).1∈(l.take j).map Prod.fst from List.mem_map.2 ⟨l[k]'(by omega),List.mem_take_iff_getElem.2 ⟨k,by omega,rfl⟩,rfl⟩));obtain⟨x,hx⟩:∃x,x=l[j]:=⟨_,rfl⟩;rw [<-hx]at cC;have HX:=aa hx;clear hx;obtain⟨wo,Ww⟩:∃y,y=wr:=⟨_,rfl⟩;subst Ww;go_wp2
  go_loopg [5] j (λnn kv wr=>∃k:Nat,nn+k=j/\kv=.int .i64 k/\Hy (x.1∉(l.take k).map Prod.fst)/\Hy (fX X.lo w wr)/\Hy (Ck X i (F++oH [] (l.take j)) U wr))
  case atStart=>exact⟨0,by omega,rfl,aa (by simp),lO,nG⟩
  case round=>
   obtain⟨k,hk,rfl,F4,Uw,qF⟩:=hrel
   by_cases hkj:k<j
   ·have aco:(k:Int)<(j:Int):=by omega
    have AQ:(k:Int)<(l.length:Int):=by omega
    have fO:(k:Int)+1<=9223372036854775807:=by omega
    obtain⟨g,cap,hv,eP,hcs⟩:=sw (yo HR.o Uw.o (by decide) (by decide) (by decide)) j hlt
    injection hv with v1 v2 v3
    subst v1 v3;obtain⟨a0,a1⟩:=hcs j hlt;obtain⟨d0,_⟩:=hcs k (by omega);rw [<-HX.o]at a0 a1;have HMk:=aa (HMe.o k hkj);have ou:=aa (show(l.take (k+1)).map Prod.fst=(l.take k).map Prod.fst++ [(l[k]'(by omega)).1] by rw [<-List.take_append_getElem (show k<l.length by omega),List.map_append];rfl);clear hcs v2;generalize l[k]'(by omega)=y at*
    rcases he:(y.1==x.1)with _|_
    ·have HNn:=aa (show x.1∉(l.take (k+1)).map Prod.fst by rw [ou.o];intro hm;rcases List.mem_append.1 hm with hm|hm;exact F4.o hm;simp at hm;simp [hm]at he)
     go_wp2_with fail
     go_quiet (fail)
     have D4:=aa (qF.o.drewN nq);have qi:=aa (Uw.o.drewN nq);go_wp2
     go_roundg (gk-1)
     case measure=>omega
     case rel=>exact⟨k+1,by omega,by go_num,HNn,qi,D4⟩
    ·have HIf:=aa (show oH [] (l.take (j+1))=oH [] (l.take j)++ [(5,x.2)] by rw [cC.o,if_pos (by have:=HMk.o;rw [show y.1=x.1 by simpa using he]at this;exact this)])
     have G0:=aa (show(F++oH [] (l.take j)).length<=1000000000 by have:=km.o;have:=vB [] (l.take j);rw [List.length_take]at this;rw [List.length_append];omega)
     go_wp2_with fail
     go_quiet (fail)
     have D4:=aa (qF.o.drewN nq);have qi:=aa (Uw.o.drewN nq)
     go_wp2_with fail
     refine(je D4.o 5 x.2 G0.o).mono ?_;rintro e w5 ⟨rfl,ma,iO⟩;have nB:=aa (qi.o.trans ma);have o_:=aa (show Ck X i (F++oH [] (l.take (j+1))) U w5 by rw [HIf.o,<-List.append_assoc];exact iO);clear ma iO;go_wp2
     go_roundg (go-1)
     case measure=>omega
     case rel=>exact⟨j+1,by omega,by go_num,nB,o_⟩
   ·have aco:¬(k:Int)<(j:Int):=by omega
    have HIf:=aa (show oH [] (l.take (j+1))=oH [] (l.take j) by
     rw [cC.o,if_neg (by have:=F4.o;rw [show k=j by omega]at this;exact this),List.append_nil])
    have D4:=aa (show Ck X i (F++oH [] (l.take (j+1))) U wr by rw [HIf.o];exact qF.o);go_wp2
    go_roundg (go-1)
    case measure=>omega
    case rel=>exact⟨j+1,by omega,by go_num,Uw,D4⟩
 have eu:¬(j:Int)<(l.length:Int):=by omega
 have XG:=aa (show Ck X i (F++oH [] l) U wr by have:=nG.o;rw [List.take_of_length_le (by omega)]at this;exact this);go_wp2
 ((try simp only [Exit.inBlock,Exit.then]);first|refine bodyPost_end (results_none rfl _ _ _) rfl ?_|refine bodyPost_ret (results_none rfl _ _ _) rfl ?_)
 exact⟨rfl,lO.o,XG.o⟩
theorem wS(a b:Nm×Nm)(s t:List UInt8)(w:World):
  Calls prog 241 #[.agg #[.string ⟨a.1.toArray⟩,.string ⟨a.2.toArray⟩,.string ⟨s.toArray⟩],.agg #[.string ⟨b.1.toArray⟩,.string ⟨b.2.toArray⟩,.string ⟨t.toArray⟩]] w λe w'=>e=.returned (.bool (kK a b))/\Below w.heap.size w w':=by
 rcases he:(a.1==b.1)with _|_
 ·go_enter func241,ntmps241
  go_wp2;go_ret;exact⟨by show Ending.returned (.bool (Op.bytesLess a.1 b.1))=_;rw [fS];unfold kK;rw [he];simp,((Below.refl _ _).alloc (Nat.le_refl _) _).alloc (by simp) _⟩
 go_enter func241,ntmps241
 go_wp2;go_ret;refine⟨?_,((Below.refl _ _).alloc (Nat.le_refl _) _).alloc (by simp) _⟩;show Ending.returned (.bool (Op.bytesLess a.2 b.2))=_;rw [fS];unfold kK;rw [he,show a.1=b.1 by simpa using he,WideAt.bytes_irrefl];simp
theorem cQ.once(sc:List (List UInt8×Nat))(L:List (List UInt8))(n:List UInt8)(p:Nat):cQ (fw L n p) sc (if n∈L then [(5,p)]else []) []:=by
 by_cases h:n∈L
 ·rw [if_pos h]
  exact(cQ.tell sc 5 p (by omega)).of λs _=>by unfold fw;rw [if_pos (List.count_pos_iff.2 h)]
 rw [if_neg h]
 exact(cQ.id sc).of λs _=>by unfold fw;rw [if_neg (λe=>h (List.count_pos_iff.1 e))]
theorem cQ.aaz(sc:List (List UInt8×Nat))(l:List (List UInt8×Nat))(L L':List (List UInt8))(h:∀x,x∈L↔x∈L'):cQ (ik l L) sc (oH L' l) []:=by
 induction l generalizing L L' with
 |nil=>exact(cQ.id sc).of λs _=>rfl
 |cons y q ih=>
  have h1:=cQ.once sc L y.1 y.2;have h2:=ih (y.1::L) (L'++ [y.1]) (λx=>by simp [h,or_comm]);refine((h1.comp h2).of λs _=>rfl).perm (λx=> ?_) (λx=>by simp);show x∈(if y.1∈L then [(5,y.2)]else [])++oH (L'++ [y.1]) q↔x∈(if y.1∈L' then [(5,y.2)]else [])++oH (L'++ [y.1]) q
  by_cases hy:y.1∈L
  ·rw [if_pos hy,if_pos ((h _).1 hy)]
  ·rw [if_neg hy,if_neg (λe=>hy ((h _).2 e))]
def PU(l:List (lu×Option Addr)):List (Nat×Nat):=l.flatMap λx=>if x.2=none then [(6,x.1.ai)]else []
theorem cQ.nN(sc:List (List UInt8×Nat))(l:List (lu×Option Addr))(L L':List (List UInt8))(h:∀x,x∈L↔x∈L'):cQ (iG l L) sc (oH L' (l.map λx=>(x.1.ag,x.1.ai))++PU l) []:=by
 induction l generalizing L L' with
 |nil=>exact(cQ.id sc).of λs _=>rfl
 |cons y q ih=>
  have h1:=cQ.once sc L y.1.ag y.1.ai
  have h3:cQ (uT y.2 y.1.ai) sc (if y.2=none then [(6,y.1.ai)]else []) []:=by
   by_cases hn:y.2=none
   ·rw [if_pos hn];exact(cQ.tell sc 6 _ (by omega)).of λs _=>by unfold uT;rw [if_pos hn]
   ·rw [if_neg hn];exact(cQ.id sc).of λs _=>by unfold uT;rw [if_neg hn]
  have h2:=ih (y.1.ag::L) (L'++ [y.1.ag]) (λx=>by simp [h,or_comm]);refine(((h1.comp h3).comp h2).of λs _=>rfl).perm (λx=> ?_) (λx=>by simp)
  have e:(if y.1.ag∈L then [(5,y.1.ai)]else([]:List (Nat×Nat)))=if y.1.ag∈L' then [(5,y.1.ai)]else []:=by
   by_cases hy:y.1.ag∈L
   ·rw [if_pos hy,if_pos ((h _).1 hy)]
   ·rw [if_neg hy,if_neg (λe=>hy ((h _).2 e))]
  rw [e];show _↔x∈((if y.1.ag∈L' then [(5,y.1.ai)]else [])++oH (L'++ [y.1.ag]) (q.map λx=>(x.1.ag,x.1.ai)))++((if y.2=none then [(6,y.1.ai)]else [])++PU q);simp only [List.mem_append]
  constructor
  ·rintro((h|h)|(h|h))<;>simp [h]
  ·rintro((h|h)|(h|h))<;>simp [h]
theorem LW(l:List sL)(L L':List (List UInt8))(h:∀x,x∈L↔x∈L')(s:KS):(j8 l L s).az=s.az++l.map (λx=>(x.ag,x.eF))/\(∀G,yn G s->yn (G++oH L' (l.map λx=>(x.ag,x.ai))) (j8 l L s))/\(j8 l L s).lk=s.lk:=by
 induction l generalizing L L' s with
 |nil=>exact⟨by simp [j8],λG hb=>by simpa [oH,j8]using hb,rfl⟩
 |cons y q ih=>
  obtain⟨a,b,c⟩:=ih (y.ag::L) (L'++ [y.ag]) (λx=>by simp [h,or_comm]) (Hi (fw L y.ag y.ai s) y);refine⟨?_,λG hb=> ?_,?_⟩
  ·show(j8 q _ _).az=_
   rw [a];simp [Hi,xg]
  ·have h1:=(cQ.once s.az L y.ag y.ai).SI G s rfl hb
   have h2:=b (G++(if y.ag∈L then [(5,y.ai)]else [])) h1
   have e:(if y.ag∈L then [(5,y.ai)]else([]:List (Nat×Nat)))=if y.ag∈L' then [(5,y.ai)]else []:=by
    by_cases hy:y.ag∈L
    ·rw [if_pos hy,if_pos ((h _).1 hy)]
    ·rw [if_neg hy,if_neg (λe=>hy ((h _).2 e))]
   rw [e,List.append_assoc]at h2;exact h2
  ·show(j8 q _ _).lk=_
   rw [c];exact q_ _ _ _ _
theorem PV{ar:gS}{f:iL}(h:Ty ar (f.ay.map λx=>(x.ag,x.eF)) f.br t D A N)(hN:N<=m+1)(s:KS):
  (∀G,yn G s->yn (G++(oH [] (f.ay.map λx=>(x.ag,x.ai))++(D++dY t f.result f.br.ai))) (o8 ar m f s))/\∀x,x∈(o8 ar m f s).lk.map fg↔x∈s.lk.map fg\/x∈A:=by
 obtain⟨a,b,c⟩:=LW f.ay [] [] (λx=>Iff.rfl) {s with az:= []};have hm:=h.must f.result (m+1) hN
 have hs:(j8 f.ay [] {s with az:= []}).az=f.ay.map λx=>(x.ag,x.eF):=by rw [a];simp
 refine⟨λG hb=> ?_,λx=> ?_⟩
 ·have h1:=b G hb
  have h2:=hm.SI _ _ hs h1;rw [List.append_assoc]at h2;exact h2
 have:=hm.keys _ hs x;rw [c]at this;exact this
theorem LX{a:Nat}(ha:a=3\/a=5\/a=6\/a=7\/a=8)(hb:b=3\/b=5\/b=6\/b=7\/b=8)(h:ew a=ew b):a=b:=by
 rcases ha with rfl|rfl|rfl|rfl|rfl<;>rcases hb with rfl|rfl|rfl|rfl|rfl<;>first|rfl|(simp [ew]at h)
theorem yn.unique{s s':KS}(h:yn F s)(h':yn F' s')(hm:∀x,x∈F↔x∈F')(hc:∀x∈F,x.1=3\/x.1=5\/x.1=6\/x.1=7\/x.1=8):s.aK=s'.aK/\(s.aK≠0->s.ai=s'.ai):=by
 have h2:=h'.mem λx=>(hm x).symm
 rcases h with⟨rfl,h0⟩|⟨h1,hi,hl⟩
 ·rcases h2 with⟨_,h0'⟩|⟨_,uV,_⟩
  ·exact⟨by rw [h0,h0'],λe=>absurd h0 e⟩
  ·cases uV
 rcases h2 with⟨rfl,_⟩|⟨_,uV,hl'⟩
 ·cases hi
 have e1:=hl _ uV;have e2:=hl' _ hi;have r1:=vA s.aK;have r2:=vA s'.aK;simp only [F7]at e1 e2
 have ep:s.ai=s'.ai:=by omega
 have er:ew s.aK=ew s'.aK:=by omega
 exact⟨LX (hc _ hi) (hc _ uV) er,λ_=>ep⟩
theorem lC.cons{f:iL}{r:wK}(h:lC ws ex (f::fl) (r::rl)):Dd ws ex f r/\lC ws ex fl rl:=by
 obtain⟨a,b⟩:=h;refine⟨b 0 (by simp) (by simp),by simpa using a,λj h1 h2=> ?_⟩;have:=b (j+1) (by simpa using h1) (by simpa using h2);simpa using this
theorem Aa(h:lC ws ex fl rl)(n:List UInt8)(p:Bool):(JH n p rl=none/\jn p n fl=none)\/∃f r,JH n p rl=some r/\jn p n fl=some f/\Dd ws ex f r:=by
 induction fl generalizing rl with
 |nil=>
  cases rl with
  |nil=>exact Or.inl ⟨rfl,rfl⟩
  |cons r rl=>exact absurd h.1 (by simp)
 |cons f fl ih=>
  cases rl with
  |nil=>exact absurd h.1 (by simp)
  |cons r rl=>
   obtain⟨a,b⟩:=h.cons;unfold JH jn
   have hc:((r.ag==n)&&(r.gW|| !p))=true↔(p=true->f.gW=true)/\f.ag=n:=by
    rw [a.ag,a.gW]
    cases p<;>cases f.gW<;>simp
   by_cases hh:(p=true->f.gW=true)/\f.ag=n
   ·rw [if_pos (hc.2 hh),if_pos hh]
    exact Or.inr ⟨f,r,rfl,rfl,a⟩
   ·rw [if_neg (λe=>hh (hc.1 e)),if_neg hh]
    exact ih b
structure S_ (m:RM) (md:Mod):Prop where
 nN:m.aq=md.aq
 aR:lC m.ws (rd m.ws m.ws.length).1 md.aR m.aR
def AR(all:List (List UInt8×RM))(E:Nm->Option Mod):Prop:=∀n,(rD n all=none/\E n=none)\/∃m md,rD n all=some m/\E n=some md/\S_ m md
theorem I0(ps:List Nat)(r:Nat):ja ps r≠ []:=by unfold ja;simp
theorem PW{f:iL}{r:wK}(h:Dd ws ex f r):Ik r.aef r.aL=ja (f.ay.map λx=>x.eF) f.result:=by
 rw [h.aef,h.aL,show(f.ay.map λx=>sT x.eF)=(f.ay.map λx=>x.eF).map sT by rw [List.map_map];rfl];exact LN (λt ht=>by obtain⟨x,hx,rfl⟩:=List.mem_map.1 ht;exact h.SA.1 x hx) h.SA.2
theorem sA{E:Nm->Option Mod}(h:AR all E)(m n:Nm):dA all m n=fx (E m) n:=by
 unfold dA fx
 rcases h m with⟨a,b⟩|⟨x,md,a,b,c⟩
 ·rw [a,b];simp [o9]
 rw [a,b];simp only [o9,Option.isSome_some,Option.bind_some,true_and]
 by_cases hn:n= []
 ·rw [if_pos hn,if_pos hn]
 rw [if_neg hn,if_neg hn]
 rcases Aa c.aR n true with⟨e1,e2⟩|⟨f,r,e1,e2,e3⟩
 ·rw [e1,e2]
 rw [e1,e2];exact PW e3
theorem vC(K:List (Nm×Nm))(x y:Nm×Nm):y∈lU K x↔y∈K\/y=x:=by
 unfold lU
 split
 ·next h=>exact⟨Or.inl,λe=>e.elim id (λe=>e▸h)⟩
 simp
theorem wT(n:Nm)(p:lu×Option Mod)(r:List (lu×Option Mod)):mq n (p::r)=⟨p.1.ag,n,fx p.2 n⟩::(match o9 p.2 n with|some _=> []|none=>mq n r):=rfl
theorem I1{E:Nm->Option Mod}(h:AR all E){n:Nm}(hn:n≠ [])(l:List lu)(K:List (Nm×Nm)):
  ((j9 n (l.map λi=>E i.ag)=none/\(jE all n l K).2=none)\/∃f r ws ex,j9 n (l.map λi=>E i.ag)=some f/\(jE all n l K).2=some r/\Dd ws ex f r)/\
   ∀y,y∈(jE all n l K).1↔y∈K\/y∈(mq n (l.zip (l.map λi=>E i.ag))).map fg:=by
 induction l generalizing K with
 |nil=>exact⟨Or.inl ⟨rfl,rfl⟩,λy=>by simp [jE,mq]⟩
 |cons x r ih=>
  have hs:=sA h x.ag n
  rcases h x.ag with⟨a,b⟩|⟨m,md,a,b,c⟩
  ·have h0:dA all x.ag n= []:=by unfold dA;rw [a]
   have hk:jE all n (x::r) K=jE all n r (lU K (x.ag,n)):=by show(if dA all x.ag n= []then _ else _)=_;rw [if_pos h0]
   obtain⟨p,q⟩:=ih (lU K (x.ag,n));rw [hk];refine⟨?_,λy=> ?_⟩
   ·show(j9 n (E x.ag::r.map λi=>E i.ag)=none/\_)\/∃f r' ws ex,j9 n (E x.ag::r.map λi=>E i.ag)=some f/\_/\_
    rw [b];exact p
   ·rw [q,vC]
    show _↔y∈K\/y∈(mq n ((x,E x.ag)::r.zip (r.map λi=>E i.ag))).map fg;rw [wT];simp only [b,o9,Option.bind_none,List.map_cons,List.mem_cons];show _↔y∈K\/y=(x.ag,n)\/_;rw [or_assoc]
  ·rcases Aa c.aR n true with⟨e1,e2⟩|⟨f,rf,e1,e2,e3⟩
   ·have h0:dA all x.ag n= []:=by unfold dA;rw [a];simp only [if_neg hn,e1]
    have hk:jE all n (x::r) K=jE all n r (lU K (x.ag,n)):=by show(if dA all x.ag n= []then _ else _)=_;rw [if_pos h0]
    obtain⟨p,q⟩:=ih (lU K (x.ag,n));rw [hk];refine⟨?_,λy=> ?_⟩
    ·show(j9 n (E x.ag::r.map λi=>E i.ag)=none/\_)\/∃f r' ws ex,j9 n (E x.ag::r.map λi=>E i.ag)=some f/\_/\_
     rw [b];simp only [j9,e2];exact p
    ·rw [q,vC]
     show _↔y∈K\/y∈(mq n ((x,E x.ag)::r.zip (r.map λi=>E i.ag))).map fg;rw [wT];simp only [b,o9,Option.bind_some,e2,List.map_cons,List.mem_cons];show _↔y∈K\/y=(x.ag,n)\/_;rw [or_assoc]
   ·have h0:dA all x.ag n≠ []:=by unfold dA;rw [a];simp only [if_neg hn,e1];rw [PW e3];exact I0 _ _
    have hk:jE all n (x::r) K=(lU K (x.ag,n),some rf):=by
     show(if dA all x.ag n= []then _ else _)=_;rw [if_neg h0,a];show(_,JH n true m.aR)=_;rw [e1]
    rw [hk];refine⟨Or.inr ⟨f,rf,_,_,?_,rfl,e3⟩,λy=> ?_⟩
    ·show j9 n (E x.ag::r.map λi=>E i.ag)=some f
     rw [b];simp only [j9,e2]
    ·rw [vC]
     show _↔y∈K\/y∈(mq n ((x,E x.ag)::r.zip (r.map λi=>E i.ag))).map fg;rw [wT];simp only [b,o9,Option.bind_some,e2,List.map_cons,List.map_nil,List.mem_singleton];exact Iff.rfl
theorem rI{E:Nm->Option Mod}(h:AR X.all E)(Xj:S_ X.me md){n:Nm}(hn:n≠ [])(K:List (Nm×Nm)):
  ((rk md (fZ E md) n=none/\(eO X n K).2=none)\/∃f r ws ex,rk md (fZ E md) n=some (mW f)/\(eO X n K).2=some r/\Dd ws ex f r)/\∀y,y∈(eO X n K).1↔y∈K\/y∈(tV md (fZ E md) n).map fg:=by
 unfold eO rk tV
 rcases Aa Xj.aR n false with⟨e1,e2⟩|⟨f,r,e1,e2,e3⟩
 ·rw [e1,e2,Xj.nN]
  obtain⟨p,q⟩:=I1 h hn md.aq K;refine⟨?_,q⟩;show((j9 n (md.aq.map λi=>E i.ag)).map mW=none/\_)\/_
  rcases p with⟨a,b⟩|⟨f,r,ws,ex,a,b,c⟩
  ·exact Or.inl ⟨by rw [a];rfl,b⟩
  ·refine Or.inr ⟨f,r,ws,ex,?_,b,c⟩
   show(j9 n (md.aq.map λi=>E i.ag)).map mW=_;rw [a];rfl
 rw [e1,e2];exact⟨Or.inr ⟨f,r,_,_,rfl,rfl,e3⟩,λy=>by simp⟩
theorem Xk{E:Nm->Option Mod}(h:AR X.all E)(Xj:S_ X.me md)(hl:cG X.me.ws)(lK:∀w∈X.me.ws,w.aL=2->w.aX≠ []/\w.aX≠ [116,114,117,101]/\w.aX≠ [102,97,108,115,101]/\w.aX≠ [45]/\w.aX≠ [33]/\w.aX≠ [40])(hlen:X.me.ws.length<=700)(himp:X.me.aq.length<=700)(hz:SH X.all):G1 X (qy md (fZ E md)) where
 last:=hl
 aZ:=lK
 len:=hlen
 nN:=himp
 SJ:=hz
 aav n hn hs K:=by
  rcases (rI h Xj hn K).1 with⟨_,b⟩|⟨f,r,ws,ex,a,_⟩
  ·exact b
  ·have e:rk md (fZ E md) n=none:=hs
   rw [e]at a;cases a
 aaw n hn ps r hs:=by
  have e:rk md (fZ E md) n=some (ps,r):=hs
  have key:∀K,∃f r' ws ex,mW f=(ps,r)/\(eO X n K).2=some r'/\Dd ws ex f r':=λK=>by
   rcases (rI h Xj hn K).1 with⟨a,_⟩|⟨f,r',ws,ex,a,b,c⟩
   ·rw [e]at a;cases a
   ·rw [e]at a
    injection a with a
    exact⟨f,r',ws,ex,a.symm,b,c⟩
  obtain⟨f,r',ws,ex,a,b,c⟩:=key [];have a1:f.ay.map (λx=>x.eF)=ps:=congrArg Prod.fst a;have a2:f.result=r:=congrArg Prod.snd a;refine⟨λt ht=> ?_,by rw [<-a2];exact c.SA.2,λK=> ?_⟩
  ·rw [<-a1]at ht
   obtain⟨x,hx,rfl⟩:=List.mem_map.1 ht;exact c.SA.1 x hx
  ·obtain⟨f,r',ws,ex,a,b,c⟩:=key K
   have a1:f.ay.map (λx=>x.eF)=ps:=congrArg Prod.fst a;have a2:f.result=r:=congrArg Prod.snd a;exact⟨r',b,by rw [c.aef,<-a1,List.map_map];rfl,by rw [c.aL,a2]⟩
 keys n hn K x:=by
  rw [(rI h Xj hn K).2 x];show _↔x∈K\/x∈((tV md (fZ E md) n).take 1000).map fg;rw [zt md (fZ E md) (by unfold fZ;rw [List.length_map,<-Xj.nN];omega) n]
theorem LY{l l':List (Nm×Nm)}(h:l.Pairwise λa b=>kK a b=true)(h':l'.Pairwise λa b=>kK a b=true)(hm:∀x,x∈l↔x∈l'):l=l':=by
 induction l generalizing l' with
 |nil=>
  cases l' with
  |nil=>rfl
  |cons y q=>exact absurd ((hm y).2 (by simp)) (by simp)
 |cons x r ih=>
  cases l' with
  |nil=>exact absurd ((hm x).1 (by simp)) (by simp)
  |cons y q=>
   obtain⟨hx,hr⟩:=List.pairwise_cons.1 h;obtain⟨hy,hq⟩:=List.pairwise_cons.1 h'
   have e:x=y:=by
    rcases List.mem_cons.1 ((hm x).1 (by simp))with e|e
    ·exact e
    ·rcases List.mem_cons.1 ((hm y).2 (by simp))with e'|e'
     ·exact e'.symm
     ·have:=kL (hx y e') (hy x e)
      rw [gA]at this;cases this
   subst e;rw [ih hr hq λz=> ?_]
   constructor
   ·intro hz
    rcases List.mem_cons.1 ((hm z).1 (by simp [hz]))with e|e
    ·subst e
     have:=hx z hz;rw [gA]at this;cases this
    ·exact e
   ·intro hz
    rcases List.mem_cons.1 ((hm z).2 (by simp [hz]))with e|e
    ·subst e
     have:=hy z hz;rw [gA]at this;cases this
    ·exact e
theorem JN{P:List (Nm×Nm)}(h:P.Pairwise λa b=>kK a b=true){y:Nm×Nm}(hy:y∈P)(hz:P.getLast?=some z)(hne:y≠z):kK y z=true:=by
 have hP:P≠ []:=by intro e;rw [e]at hy;cases hy
 have e:P=P.dropLast++ [z]:=by
  have:=(List.dropLast_concat_getLast hP).symm;rw [List.getLast?_eq_some_getLast hP]at hz
  injection hz with hz
  rw [hz]at this;exact this
 rw [e]at h hy
 rcases List.mem_append.1 hy with hy|hy
 ·exact(List.pairwise_append.1 h).2.2 y hy z (by simp)
 simp at hy;exact absurd hy hne
theorem rJ:∀(l P:List (Nm×Nm)),P.Pairwise (λa b=>kK a b=true)->(∀x∈P,∀y∈l,kK y x=false)->l.Pairwise (λa b=>kK b a=false)->(l.foldl iR P).Pairwise (λa b=>kK a b=true)/\∀z,z∈l.foldl iR P↔z∈P\/z∈l
 | [],P,h1,_,_=>⟨h1,λz=>by simp⟩
 |y::r,P,h1,h2,h3=>by
  obtain⟨hy,hr⟩:=List.pairwise_cons.1 h3
  have hc:(iR P y).Pairwise (λa b=>kK a b=true)/\∀z,z∈iR P y↔z∈P\/z=y:=by
   unfold iR
   split
   ·next hl=>
    refine⟨h1,λz=>⟨Or.inl,λe=>e.elim id λe=> ?_⟩⟩;rw [e];exact List.mem_of_getLast? hl
   ·next hl=>
    refine⟨List.pairwise_append.2 ⟨h1,by simp,λx hx z hz=> ?_⟩,λz=>by simp⟩;simp at hz;subst hz
    rcases ZC:kK x z with _|_
    ·have e:=p9 x z ZC (h2 x hx z (by simp))
     subst e
     obtain⟨w,hw⟩:∃w,P.getLast?=some w:=by
      rcases hg:P.getLast? with _|w
      ·rw [List.getLast?_eq_none_iff]at hg;rw [hg]at hx;cases hx
      ·exact⟨w,rfl⟩
     have hne:x≠w:=λe=>hl (by rw [hw,e])
     have:=JN h1 hx hw hne;rw [h2 w (List.mem_of_getLast? hw) x (by simp)]at this
     cases this
    ·rfl
  obtain⟨a,b⟩:=rJ r (iR P y) hc.1 (λx hx z hz=>by
   rcases (hc.2 x).1 hx with e|e
   ·exact h2 x e z (by simp [hz])
   ·rw [e];exact hy z hz) hr
  refine⟨a,λz=> ?_⟩;show z∈r.foldl iR (iR P y)↔_;rw [b,hc.2,List.mem_cons,or_assoc]
theorem Dl{a b c:Nm×Nm}(h1:kK b a=false)(h2:kK c b=false):kK c a=false:=by
 rcases h:kK c a with _|_
 ·rfl
 rcases h3:kK a b with _|_
 ·have:=p9 a b h3 h1
  subst this;rw [h]at h2;cases h2
 have:=kL h h3;rw [this]at h2;cases h2
theorem Dm(l:List (Nm×Nm)):(eK l).Pairwise λa b=>kK b a=false:=by
 have:=List.pairwise_mergeSort (le:=λx y=> !kK y x) (λa b c h1 h2=>by
  simp only [Bool.not_eq_true']at h1 h2⊢
  exact Dl h1 h2) (λa b=>by
  rcases h:kK b a with _|_
  ·rfl
  ·rcases h2:kK a b with _|_
   ·rfl
   ·have:=kL h h2
    rw [gA]at this;cases this) l
 exact this.imp λ{a b} h=>by simpa using h
theorem od(l:List (Nm×Nm)):(bT (eK l)).Pairwise (λa b=>kK a b=true)/\∀z,z∈bT (eK l)↔z∈l:=by
 obtain⟨a,b⟩:=rJ (eK l) [] List.Pairwise.nil (λx hx=>by cases hx) (Dm l);refine⟨a,λz=> ?_⟩;show z∈(eK l).foldl iR []↔_;rw [b];simp only [List.not_mem_nil,false_or];exact(List.mergeSort_perm _ _).mem_iff
theorem JO{l:List (Nm×Nm)}(h:o.Pairwise λa b=>kK a b=true)(hm:∀x,x∈o↔x∈l):o=bT (eK l):=
 LY h (od l).1 λx=>(hm x).trans ((od l).2 x).symm
structure FQ (K o:List (Nm×Nm)):Prop where
 up:o.Pairwise λa b=>kK a b=true
 sub:∀x∈o,x∈K
 rest:∀x∈K,x∉o->∀y∈o,kK y x=true
theorem FQ.nil(K:List (Nm×Nm)):FQ K []:=⟨List.Pairwise.nil,(λx h=>by cases h),(λx _ _ y h=>by cases h)⟩
theorem FQ.snoc(h:FQ K o){b:Nm×Nm}(hb:b∈K)(hn:b∉o)(hl:∀x∈K,x∉o->kK x b=false):FQ K (o++ [b]):=by
 refine⟨List.pairwise_append.2 ⟨h.up,by simp,λx hx z hz=> ?_⟩,λx hx=> ?_,λx hx hno y hy=> ?_⟩
 ·simp at hz;subst hz;exact h.rest z hb hn x hx
 ·rcases List.mem_append.1 hx with hx|hx
  ·exact h.sub x hx
  ·simp at hx;subst hx;exact hb
 have aa0:x∉o:=λe=>hno (by simp [e])
 have hne:x≠b:=λe=>hno (by simp [e])
 rcases List.mem_append.1 hy with hy|hy
 ·exact h.rest x hx aa0 y hy
 simp at hy;subst hy
 rcases hyx:kK y x with _|_
 ·exact absurd (p9 x y (hl x hx aa0) hyx) hne
 rfl
theorem FQ.behind(h:FQ K o)(hz:o.getLast?=some z){x:Nm×Nm}(hx:x∈K):kK z x=true↔x∉o:=by
 have hzo:=List.mem_of_getLast? hz
 constructor
 ·intro hl hxo
  by_cases e:x=z
  ·rw [e,gA]at hl;cases hl
  ·have:=kL (JN h.up hxo hz e) hl
   rw [gA]at this;cases this
 intro hno;exact h.rest x hx hno z hzo
theorem LZ(l:List UInt8):(bB l).1≠2:=by
 unfold bB
 split
 ·decide
 split
 ·split
  ·decide
  ·split<;>decide
 split<;>decide
theorem L_{c:UInt8}{r:List UInt8}(h:(aV (c::r)).1=2):bP (c.toNat:Int)=true/\bS ((c::r).take (aV (c::r)).2)=false:=by
 unfold aV at h⊢;simp only at h⊢
 by_cases hl:bP (c.toNat:Int)=true
 ·rw [if_pos hl]at h⊢
  refine⟨hl,?_⟩;simp only at h⊢;unfold dM at h
  split at h
  ·cases h
  ·split at h
   ·cases h
   ·next hk=>simpa using hk
 rw [if_neg hl]at h
 by_cases hd:ba (c.toNat:Int)=true
 ·rw [if_pos hd]at h
  simp only at h
  split at h<;>cases h
 rw [if_neg hd]at h;exact absurd h (LZ _)
theorem vD:∀(n:Nat) (l:List UInt8) (p:Nat),∀w∈fh n l p,w.aL=2->w.aX≠ []/\w.aX≠ [116,114,117,101]/\w.aX≠ [102,97,108,115,101]/\w.aX≠ [45]/\w.aX≠ [33]/\w.aX≠ [40]
 |0,l,p,w,hw,hk=>by
  simp [fh]at hw
  try (subst hw;cases hk)
 |n+1,l,p,w,hw,hk=>by
  rcases hd:l.drop (aT bm l)with _|⟨c,r⟩
  ·simp only [fh,hd,List.mem_singleton]at hw
   subst hw
   cases hk
  ·simp only [fh,hd,List.mem_cons]at hw
   rcases hw with rfl|hw
   ·obtain⟨h1,h2⟩:=L_ hk
    have hb:=gM c r;obtain⟨m,hm⟩:∃m,(aV (c::r)).2=m+1:=⟨(aV (c::r)).2-1,by omega⟩;simp only [hm,List.take_succ_cons]at h2⊢;refine⟨by simp,?_,?_,?_,?_,?_⟩
    ·intro e;rw [e]at h2;exact absurd h2 (by decide)
    ·intro e;rw [e]at h2;exact absurd h2 (by decide)
    ·intro e;injection e with e1 _;rw [e1]at h1;exact absurd h1 (by decide)
    ·intro e;injection e with e1 _;rw [e1]at h1;exact absurd h1 (by decide)
    ·intro e;injection e with e1 _;rw [e1]at h1;exact absurd h1 (by decide)
   ·exact vD n _ _ w hw hk
theorem FR(t:List UInt8):∀w∈aD t 0,w.aL=2->w.aX≠ []/\w.aX≠ [116,114,117,101]/\w.aX≠ [102,97,108,115,101]/\w.aX≠ [45]/\w.aX≠ [33]/\w.aX≠ [40]:=vD _ t 0
theorem I2(ar:gS)(m:Nat)(l:List iL)(f:iL)(s:KS):gK ar m (l++ [f]) s=o8 ar m f (gK ar m l s):=by
 induction l generalizing s with
 |nil=>rfl
 |cons x r ih=>exact ih _
def rK(ar:gS)(m:Nat)(l:List iL)(D:List (Nat×Nat))(A:List (Nm×Nm)):Prop:=∀s:KS,(∀G,yn G s->yn (G++D) (gK ar m l s))/\∀x,x∈(gK ar m l s).lk.map fg↔x∈s.lk.map fg\/x∈A
theorem rK.nil(ar:gS)(m:Nat):rK ar m [] [] []:=λs=>⟨λG h=>by simpa [gK]using h,λx=>by simp [gK]⟩
theorem rK.snoc{ar:gS}{l:List iL}{d:List (Nat×Nat)}{a:List (Nm×Nm)}{f:iL}(h:rK ar m l D A)(hf:Ty ar (f.ay.map λx=>(x.ag,x.eF)) f.br t d a N)(hN:N<=m+1):
  rK ar m (l++ [f]) (D++(oH [] (f.ay.map λx=>(x.ag,x.ai))++(d++dY t f.result f.br.ai))) (A++a):=λs=>by
 obtain⟨h1,h2⟩:=h s;obtain⟨f1,f2⟩:=PV hf hN (gK ar m l s);rw [I2];exact⟨λG hb=>by rw [<-List.append_assoc];exact f1 _ (h1 G hb),λx=>by rw [f2,h2,List.mem_append,or_assoc]⟩
theorem PX{ar:gS}{pts:List (Option Addr)}(hp:pts.length=md.aq.length)(h:rK ar m md.aR D A):
  yn (oH [] (md.aq.map λi=>(i.ag,i.ai))++PU (md.aq.zip pts)++oH [] (md.aR.map λf=>(f.ag,f.ai))++D) (rj ar m md pts)/\∀x,x∈(rj ar m md pts).lk.map fg↔x∈A:=by
 have e:(md.aq.zip pts).map (λx=>(x.1.ag,x.1.ai))=md.aq.map λi=>(i.ag,i.ai):=by
  rw [show(λx:lu×Option Addr=>(x.1.ag,x.1.ai))=(λi:lu=>(i.ag,i.ai))∘Prod.fst from rfl,<-List.map_map,List.map_fst_zip (by omega)]
 have b0:yn [] (⟨[],0,0,[]⟩:KS):=Or.inl ⟨rfl,rfl⟩;have h1:=cQ.nN [] (md.aq.zip pts) [] [] (λx=>Iff.rfl);rw [e]at h1;have h2:=cQ.aaz [] (md.aR.map λf=>(f.ag,f.ai)) [] [] (λx=>Iff.rfl);have h12:=h1.comp h2;have hb:=h12.SI [] ⟨[],0,0,[]⟩ rfl b0;have hk:=h12.keys ⟨[],0,0,[]⟩ rfl;obtain⟨c,d⟩:=h (ik (md.aR.map λf=>(f.ag,f.ai)) [] (iG (md.aq.zip pts) [] ⟨[],0,0,[]⟩));refine⟨?_,λx=> ?_⟩
 ·have:=c _ hb
  simp only [List.nil_append]at this;exact this
 show x∈(gK ar m md.aR _).lk.map fg↔_;rw [d,hk];simp
def Dn(all:List (List UInt8×RM))(l:List lu):List (Nat×Nat):=l.flatMap λi=>if dA all i.ag []= []then [(6,i.ai)]else []
theorem JP(all:List (List UInt8×RM))(l:List lu):(Dn all l).length<=l.length:=by
 induction l with
 |nil=>simp [Dn]
 |cons x r ih=>
  show(_++Dn all r).length<=_;rw [List.length_append,List.length_cons]
  dsimp only
  split<;>simp<;>omega
def iu(l:List lu):List (Nm×Nm):=l.foldl (λK i=>lU K (i.ag,[])) []
theorem I3(l:List lu)(i:lu):iu (l++ [i])=lU (iu l) (i.ag,[]):=by unfold iu;rw [List.foldl_append];rfl
theorem Ab(l:List lu)(j:Nat)(hj:j<l.length):iu (l.take (j+1))=lU (iu (l.take j)) (l[j].ag,[]):=by rw [List.take_succ_eq_append_getElem hj,I3]
theorem PY(all:List (List UInt8×RM))(l:List lu)(j:Nat)(hj:j<l.length):Dn all (l.take (j+1))=Dn all (l.take j)++(if dA all l[j].ag []= []then [(6,l[j].ai)]else []):=by
 rw [List.take_succ_eq_append_getElem hj];unfold Dn;rw [List.flatMap_append];simp
theorem BX(l:List lu)(j:Nat):(iu (l.take j)).length<=j:=by
 induction j with
 |zero=>simp [iu]
 |succ j ih=>
  by_cases hj:j<l.length
  ·rw [Ab l j hj];have:=zQ (iu (l.take j)) (l[j].ag,[]);omega
  ·rw [List.take_of_length_le (by omega)]at ih⊢;omega
theorem Ma(l:List lu)(x:Nm×Nm):x∈iu l↔x∈l.map λi=>(i.ag,[]):=by
 have key:∀(l:List lu) (K:List (Nm×Nm)),x∈l.foldl (λK i=>lU K (i.ag,[])) K↔x∈K\/x∈l.map λi=>(i.ag,[]):=by
  intro l
  induction l with
  |nil=>intro K;simp
  |cons i r ih=>intro K;rw [List.foldl_cons,ih,vC,List.map_cons,List.mem_cons,or_assoc]
 unfold iu;rw [key];simp
theorem PZ{E:Nm->Option Mod}(h:AR all E)(md:Mod):Dn all md.aq=PU (md.aq.zip (ER E md)):=by
 unfold Dn PU ER;generalize md.aq=l
 induction l with
 |nil=>rfl
 |cons i r ih=>
  rw [List.map_cons,List.zip_cons_cons,List.flatMap_cons,List.flatMap_cons,ih]
  congr 1
  rw [sA h]
  rcases E i.ag with _|x
  ·rfl
  ·rfl
theorem Ta{nm:Nm}{E:Nm->Option Mod}(bp:AB 601 md)(hA:∀x,x∈(fI E md).lk.map fg↔x∈A)(hK:∀x,x∈K↔x∈iu md.aq\/x∈A):(bT (eK K)).map (Sj (Sm E))=kC nm E md:=by
 unfold kC lR;rw [JO (od K).1 λx=> ?_];rw [(od K).2,hK,<-hA,Ma,List.mem_append,or_comm]
 have:∀x,x∈(lS nm E md).2.map fg↔x∈(fI E md).lk.map fg:=λx=>by
  have key:∀u,u∈(lS nm E md).2↔u∈(fI E md).lk:=λu=>by
   unfold lS;rw [B9 bp.trees];unfold fI;rw [EF bp.trees];exact⟨λh=>h.elim id id,Or.inl⟩
  simp only [List.mem_map,key]
 rw [this]
structure aa1 (S:Nat->Prop) (w:World) (av lv iv fv:Value) (all:List (List UInt8×RM)) (m:RM) (E:Nm->Option Mod) (md:Mod):Prop where
 al:eL S w av all
 me:jr S w lv iv fv m
 hS:∀k,S k->k<w.heap.size
 bad:m.bad=false
 rel:AR all E
 QT:S_ m md
 last:eR m.ws
 nms:∀w∈m.ws,w.aL=2->w.aX≠ []/\w.aX≠ [116,114,117,101]/\w.aX≠ [102,97,108,115,101]/\w.aX≠ [45]/\w.aX≠ [33]/\w.aX≠ [40]
 len:m.ws.length<=700
 SJ:SH all
 ok:AB 601 md
def P_(E:Nm->Option Mod)(md:Mod)(w:World)(e:Ending)(w':World):Prop:=
 ∃(c p:Nat) (ov:Value),e=.returned (.tuple #[.agg #[.int .i64 c,.int .i64 p],ov])/\Below w.heap.size w w'/\c=(fI E md).aK/\(c≠0->p=(fI E md).ai)/\∀nm,w'.ownsRow w.heap.size 185 3 ov (kC nm E md).length (bo (kC nm E md))
abbrev QU(i:lu):List UInt8×Nat:=(i.ag,i.ai)
abbrev MG(f:wK):List UInt8×Nat:=(f.ag,f.ai)
theorem Tb(l:List lu):l.flatMap dI=cD (l.map QU):=by
 unfold cD;rw [List.flatMap_map];rfl
theorem Qa(l:List (List UInt8×Nat))(x:List UInt8×Nat):cD (l++ [x])=cD l++ [.string ⟨x.1.toArray⟩,.int .i64 x.2]:=by unfold cD;simp
abbrev Tc(x:sL):List UInt8×Nat:=(x.ag,x.ai)
abbrev Xl(x:sL):List UInt8×Nat:=(x.ag,x.eF)
theorem Qb(h:lC ws ex fl rl):(fl.map λf=>(f.ag,f.ai))=rl.map MG:=by
 obtain⟨hl,ha⟩:=h
 apply List.ext_getElem
 ·simp [hl]
 intro j h1 h2;simp only [List.length_map]at h1 h2;have:=ha j h1 h2;rw [List.getElem_map,List.getElem_map];show _=(rl[j].ag,rl[j].ai);rw [this.ag,this.ai]
theorem Mb{m:RM}{E:Nm->Option Mod}(hr:AR all E)(hm:S_ m md)(h:rK (qy md (fZ E md)) 700 md.aR D A):
  yn (((oH [] (m.aq.map QU)++Dn all m.aq)++oH [] (m.aR.map MG))++D) (fI E md)/\∀x,x∈(fI E md).lk.map fg↔x∈A:=by
 have:=PX (pts:=ER E md) (by unfold ER;simp) h;rw [<-PZ hr,Qb hm.aR]at this;rw [hm.nN];exact this
structure Kx (w:World) (iv fv:Value) (all:List (List UInt8×RM)) (m:RM) (X:CX) (wx:World):Prop where
 acp:all=X.all
 xme:m=X.me
 xiv:iv=X.iv
 xfv:fv=X.fv
 lo:X.lo=w.heap.size+2
 ck:Ck X 0 [] (eQ X.all []) wx
 mb:wx.heap[w.heap.size]?=some (.cells #[X.lv,X.iv,X.fv,.bool false,.int .i64 X.pl] 249 (0,0))
 rb:wx.heap[w.heap.size+1]?=some (.cells #[.int .i64 0,.int .i64 0] 253 (0,0))
 dB:Below w.heap.size w wx
theorem Kx.init{S:Nat->Prop}{av:Value}{g cap:Nat}{m:RM}(hb:m.bad=false)(ha:eL S w av all)(hm:jr S w (.slice (some ⟨g,0,none⟩) m.ws.length cap) iv fv m)(hS:∀k,S k->k<w.heap.size):
  Kx w iv fv all m ⟨w.heap.size+1+1,w.heap.size+2,g,cap,av,iv,fv,m.ai,S,all,m⟩ (((w.alloc (.cells #[.slice (some ⟨g,0,none⟩) m.ws.length cap,iv,fv,.bool false,.int .i64 m.ai] 249)).alloc (.cells #[.int .i64 0,.int .i64 0] 253)).alloc (.cells #[av,.slice (some ⟨g,0,none⟩) m.ws.length cap,iv,fv,.bool false,.int .i64 m.ai,.int .i64 0,.slice none 0 0,.slice none 0 0] 318)):=by
 obtain⟨w1,h1⟩:∃w1,w1=w.alloc (.cells #[.slice (some ⟨g,0,none⟩) m.ws.length cap,iv,fv,.bool false,.int .i64 m.ai] 249):=⟨_,rfl⟩;obtain⟨w2,h2⟩:∃w2,w2=w1.alloc (.cells #[.int .i64 0,.int .i64 0] 253):=⟨_,rfl⟩
 have s1:w1.heap.size=w.heap.size+1:=by rw [h1];simp
 have s2:w2.heap.size=w.heap.size+1+1:=by rw [h2];simp [s1]
 have b1:=aF w (.cells #[.slice (some ⟨g,0,none⟩) m.ws.length cap,iv,fv,.bool false,.int .i64 m.ai] 249);rw [<-h1]at b1;have b2:=aF w1 (.cells #[.int .i64 0,.int .i64 0] 253);rw [<-h2,s1]at b2;have b3:=aF w2 (.cells #[av,.slice (some ⟨g,0,none⟩) m.ws.length cap,iv,fv,.bool false,.int .i64 m.ai,.int .i64 0,.slice none 0 0,.slice none 0 0] 318);rw [s2]at b3;have X_:=aI b1 (.cells #[.int .i64 0,.int .i64 0] 253);rw [<-h2]at X_
 have jM:Below w.heap.size w w2:=by rw [h2,h1];exact((Below.refl _ _).alloc (Nat.le_refl _) _).alloc (by simp) _
 rw [<-h1,<-h2];have qC:=jM.alloc (by rw [s2];omega) (.cells #[av,.slice (some ⟨g,0,none⟩) m.ws.length cap,iv,fv,.bool false,.int .i64 m.ai,.int .i64 0,.slice none 0 0,.slice none 0 0] 318);exact⟨rfl,rfl,rfl,rfl,rfl,⟨⟨none,0,none,0,b3,World.ownsRow_nil _ _ _ _,World.ownsRow_nil _ _ _ _⟩,Nat.le_refl _,hb,λk hk=>by have:=hS k hk;show k<w.heap.size+2;omega,hm.below qC,ha.below qC,λx hx=>(by cases hx),by simp⟩,aI X_ _,aI b2 _,qC⟩
theorem Kx.cells{io fo:Option Addr}{n1 n2 ic fc:Nat}{m:RM}(h:Kx w (.slice io n1 ic) (.slice fo n2 fc) all m X wc)(hf:fX X.lo wc wr):
  wr.cell? ⟨w.heap.size,1,none⟩=some (.slice io n1 ic)/\wr.cell? ⟨w.heap.size,2,none⟩=some (.slice fo n2 fc)/\w.heap.size<wr.heap.size:=by
 have hb:=(hf.block _ (af h.mb) (Or.inl (by rw [h.lo];omega))).trans h.mb;rw [<-h.xiv,<-h.xfv]at hb;exact⟨by rw [ae hb];rfl,by rw [ae hb];rfl,af hb⟩
theorem Kx.res{m:RM}(h:Kx w iv fv all m X wc)(hf:fX X.lo wc wr):
  wr.heap[w.heap.size+1]?=some (.cells #[.int .i64 0,.int .i64 0] 253 (0,0)):=(hf.block _ (af h.rb) (Or.inl (by rw [h.lo];omega))).trans h.rb
theorem Kx.rows{m:RM}(h:Kx w iv fv all m X wc)(hc:Ck X i F U wr):
  wr.ownsRow 0 260 2 iv (X.me.aq.map QU).length (cD (X.me.aq.map QU))/\kO X.S wr fv X.me.aR:=by
 obtain⟨_,a,b⟩:=hc.me.ok hc.bad;rw [h.xiv,h.xfv];exact⟨by rw [List.length_map,<-Tb];exact a.1,b⟩
theorem Uy(l:List (Nat×Nat))(j:Nat)(hj:j<l.length):(jd l)[j*2]?=some (.int .i64 l[j].1)/\(jd l)[j*2+1]?=some (.int .i64 l[j].2):=by
 induction l generalizing j with
 |nil=>simp at hj
 |cons x r ih=>
  rw [show jd (x::r)=.int .i64 x.1:: .int .i64 x.2::jd r from rfl]
  cases j with
  |zero=>exact⟨rfl,rfl⟩
  |succ j=>
   have:=ih j (by simpa using hj);rw [show(j+1)*2=j*2+1+1 by omega];simpa using this
theorem Qc{l:List (Nat×Nat)}(h:w.ownsRow b 253 2 v l.length (jd l))(j:Nat)(hj:j<l.length):
  ∃g cap,v=.slice (some ⟨g,0,none⟩) l.length cap/\g<w.heap.size/\w.cell? ⟨g,j*2,none⟩=some (.int .i64 l[j].1)/\w.cell? ⟨g,j*2+1,none⟩=some (.int .i64 l[j].2):=by
 rcases bZ h with⟨rfl,h0⟩|⟨g,cap,rfl,hb,hlt,gO,hc,he⟩
 ·omega
 exact⟨g,cap,rfl,hlt,(hc _ (by omega)).trans (Uy l j hj).1,(hc _ (by omega)).trans (Uy l j hj).2⟩
theorem BZ{base:Nat}{t:Obj}{c:Array Value}{ty:TypeId}(h:w.heap[b]?=some (.cells c ty (0,0)))(hb:Below base w0 w)(hs:base<=w.heap.size):((w.alloc t).drewN n).heap[b]?=some (.cells c ty (0,0))/\Below base w0 ((w.alloc t).drewN n):=
 ⟨aI h t,(hb.alloc hs t).trans ⟨rfl,rfl,rfl,Nat.le_refl _,λ_ _=>rfl⟩⟩
theorem Qd{base b n:Nat}{t:Obj}{a0 a1:Value}{ty:TypeId}(h:w.heap[b]?=some (.cells #[a0,a1] ty (0,0)))(hb:Below base w0 w)(oP:base<=b)(x y:Value):
  ((((w.alloc t).drewN n).setCell ⟨b,0,none⟩ x).setCell ⟨b,1,none⟩ y).heap[b]?=some (.cells #[x,y] ty (0,0))/\Below base w0 ((((w.alloc t).drewN n).setCell ⟨b,0,none⟩ x).setCell ⟨b,1,none⟩ y):=by
 obtain⟨h1,h2⟩:=BZ (n:=n) (t:=t) h hb (Nat.le_trans oP (Nat.le_of_lt (af h)));exact⟨ax (ax h1 0 x) 1 y,(h2.setCell oP x).setCell oP y⟩
theorem Qe{l:List Nat}(h:w.ownsRow b 5 1 v l.length (l.map λ(k:Nat)=> .int .u8 k))(j:Nat)(hj:j<l.length):
  ∃g cap,v=.slice (some ⟨g,0,none⟩) l.length cap/\g<w.heap.size/\w.cell? ⟨g,j,none⟩=some (.int .u8 l[j]):=by
 rcases bZ h with⟨rfl,h0⟩|⟨g,cap,rfl,hb,hlt,gO,hc,he⟩
 ·omega
 exact⟨g,cap,rfl,hlt,(hc j (by omega)).trans (by simp [hj])⟩
theorem FT(x:List UInt8×Nat)(sc:List (List UInt8×Nat)):fj (x::sc)=fj sc++ [.string ⟨x.1.toArray⟩,.int .u8 (rG x.2),.int .i64 0]:=by unfold fj;simp
theorem Uz(h:t=1\/t=2):sT t=rG t:=by rcases h with rfl|rfl<;>rfl
theorem Qf{E:Nm->Option Mod}(hr:AR all E)(bp:AB 601 md)(hA:∀x,x∈(fI E md).lk.map fg↔x∈A)(hK:∀x,x∈K↔x∈iu md.aq\/x∈A)(nm:Nm):
  (bT (eK K)).length=(kC nm E md).length/\dz (Gz all) (bT (eK K))=bo (kC nm E md):=by
 have e:=Ta (nm:=nm) bp hA hK
 have es:Gz all=Sm E:=by funext x;exact sA hr x.1 x.2
 refine⟨by rw [<-e,List.length_map],?_⟩;rw [<-e,es];unfold bo dz;rw [List.flatMap_map]
 rfl
end Go.Proofs.YtpmmjkiclngpmaaGreatDoor
