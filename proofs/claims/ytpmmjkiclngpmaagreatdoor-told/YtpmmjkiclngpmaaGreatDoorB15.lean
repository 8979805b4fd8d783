/- YtpmmjkiclngpmaaGreatDoorB15 -/
import Derived.Test.YtpmmjkiclngpmaaGreatDoorB10
import Derived.Deep.DeepCutAuto
import Derived.Deep.QuietTactic
set_option maxRecDepth 100000
set_option linter.unusedSimpArgs false
set_option linter.unusedVariables false
set_option maxHeartbeats 12800000
namespace Go.Proofs.YtpmmjkiclngpmaaGreatDoor
open Tryz
open Go.RowKit
variable{w w' w1:World}{sv:Value}{vb:VK}{B kb:Nat}
def Bf(B:Cb)(w0:World)(C:CK)(fnd:wY)(known:List UInt8->Prop):Prop:=
 ∀(ag:List UInt8) (lk:List Us) (uv:Value) (w:World),known ag->kU B w0 w->Vw B.lo C.V lk uv w->lk.length<=8000000000->Calls prog 261 #[C.c0,.string ⟨ag.toArray⟩] w λe w'=>
  (∃ap,e=.returned (.tuple #[.string ⟨(fnd.sym ag).1.toArray⟩,.pointer ap]))/\(fnd.sym ag).2=ag/\∃qA,fQ C.V uv qA w w'/\Vw B.lo C.V (lk++fnd.use ag) qA w'
def wZ(B:Cb)(w0:World)(S:Nat->Prop)(C:CK)(fnd:wY)(known:List UInt8->Prop)(cb m:Nat):Prop:=
 ∀(e:Ex) (b o:Nat) (s:CS) (sv kv lv:Value) (w:World),lV known (m+1) e->pV m S w0 b o e->b<B.lo->Cd B cb C s sv kv lv w->kU B w0 w->Fit s (sz (m+1) e)->
  Calls prog 179 #[.pointer (some ⟨cb,0,none⟩),.pointer (some ⟨b,o,none⟩)] w λe' w'=>e'=.returned (.tuple #[])/\cM B cb C w (gen fnd (m+1) e s) w'
theorem dS{r:Option Nat}(h:w.drew.grownBy w' r):w.grownBy w' r:=⟨h.os,h.tape,h.output,h.size,h.block⟩
theorem qT(h:Below w.drew.heap.size w.drew w1):Below w.heap.size w w1:=⟨h.os,h.tape,h.output,h.size,h.block⟩
theorem Nw{α:Type}{l:List α}(h:l.length=2):∃a b,l= [a,b]:=by
 match l,h with
 | [a,b],_=>exact⟨a,b,rfl⟩
theorem Nx{α:Type}{l:List α}(h:l.length=3):∃a b c,l= [a,b,c]:=by
 match l,h with
 | [a,b,c],_=>exact⟨a,b,c,rfl⟩
theorem Ku(g:Ex->CS->CS)(l:List Ex)(x:Ex)(s:CS):gG g (l++ [x]) s=g x (gG g l s):=by
 induction l generalizing s with
 |nil=>rfl
 |cons y r ih=>exact ih _
theorem tP(g:Ex->Nat)(l r:List Ex):gD g (l++r)=gD g l+gD g r:=by
 induction l with
 |nil=>simp [gD]
 |cons x l ih=>simp only [gD,List.cons_append,List.foldr_cons]at*;omega
theorem uL(g:Ex->Nat)(l:List Ex)(k:Nat)(hk:k<l.length):gD g (l.take k)+g l[k]<=gD g l:=by
 have h:=tP g (l.take k) (l.drop k);rw [List.take_append_drop]at h;rw [List.drop_eq_getElem_cons hk]at h;simp only [gD,List.foldr_cons]at*;omega
theorem ix(B:Cb)(w0:World)(S:Nat->Prop)(hS:∀k,S k->k<B.lo)(C:CK)(fnd:wY)(known:List UInt8->Prop)(cb m:Nat)(ih:∀k,m=k+1->wZ B w0 S C fnd known cb k)(e:Ex)(b o:Nat)(s:CS)(sv kv lv:Value)(w:World)(kh:∀x∈e.aw,lV known m x)(hat:pV m S w0 b o e)(hb:b<B.lo)(h:Cd B cb C s sv kv lv w)(hw:kU B w0 w)(mM:Fit s (gD (sz m) e.aw))(hpl:e.aw.length<=1000000):
  Calls prog 223 #[.pointer (some ⟨cb,0,none⟩),.pointer (some ⟨b,o,none⟩)] w λe' w'=>e'=.returned (.tuple #[])/\cM B cb C w (gG (gen fnd m) e.aw s) w':=by
 obtain⟨pv,a0,a2,a3,a4,ap⟩:=hat;have nK:=h.low;have hlt:=h.lt
 rcases Nat.eq_zero_or_pos e.aw.length with h0|jR
 ·obtain⟨po,pc,rfl⟩:=ap.none
  have HC:=aa (show gG (gen fnd m) e.aw s=s by rw [List.eq_nil_of_length_eq_zero h0];rfl);have c4:=(aC hw.dB hb (o+4)).trans a4;rw [h0]at c4;have c4':w.cell? ⟨b,o+4,none⟩=some (.slice po 0 pc):=c4;have HM:=aa h
  have hbl:b<w.heap.size:=by omega
  clear c4 h hw a0 a2 a3 a4 ap ih kh mM
  go_enter func223,ntmps223
  go_wp2
  go_loop [10] (λi=>i=.int .i64 0) (λi=>0)
  case atStart=>rfl
  case round=>
   subst hrel;go_wp2
   go_end0
   exact⟨rfl,by rw [HC.o];exact cM.mk ⟨kU.refl _ _,HM.o⟩⟩
 obtain⟨k,g,cap,fO,rfl,qU,eP,vW,hch⟩:=ap.at jR;have mi:=hS g qU;have HI:=aa (ih k fO);have Ee:=aa hch;have lI:=aa kh;have HA:=aa a4;have HM:=aa h;have HW:=aa hw;have HF:=aa mM
 have hbl:b<w.heap.size:=by omega
 have c4:=(aC hw.dB hb (o+4)).trans a4;subst fO;clear h hw a0 a2 a3 a4 ap ih kh mM hch
 go_enter func223,ntmps223
 go_wp2
 go_loopw [10] (λi wr=>∃j:Nat,j<=e.aw.length/\i=.int .i64 j/\Hy (cM B cb C w (gG (gen fnd (k+1)) (e.aw.take j) s) wr)) (λi _=>e.aw.length-(intOf i).toNat)
 case atStart=>exact⟨0,Nat.zero_le _,rfl,by show cM _ _ _ _ _ _;exact cM.mk ⟨kU.refl _ _,HM.o⟩⟩
 obtain⟨j,hj,rfl,Ja⟩:=hrel;obtain⟨hbr,sv1,kv1,lv1,XO⟩:=Ja.o;have eC:=aa hbr;have XP:=aa XO;have Mv:=HW.o.trans hbr;have R2:=aa Mv;have d4:=(aC Mv.dB hb (o+4)).trans HA.o;have Cu:=hbr.dB.size
 have acV:b<wr.heap.size:=by omega
 have acW:g<wr.heap.size:=by omega
 clear hbr XO Mv
 by_cases pY:j<e.aw.length
 ·have T9:=mD (g:=gen fnd (k+1)) (sz:=sz (k+1)) (e.aw.take j) (λx _ s=>gH fnd (k+1) x s) s
  have Mw:=uL (sz (k+1)) e.aw j pY;have TA:=aa ((T9.fit (m:=sz (k+1) e.aw[j]) (HF.o.mono Mw)));have ou:=aa (show gG (gen fnd (k+1)) (e.aw.take (j+1)) s=gen fnd (k+1) e.aw[j] (gG (gen fnd (k+1)) (e.aw.take j) s) by rw [List.take_succ_eq_append_getElem pY,Ku]);clear T9 Mw
  go_wp2_with fail
  refine(HI.o e.aw[j] g (j*5) _ sv1 kv1 lv1 _ (lI.o _ (List.getElem_mem pY)) (Ee.o j pY) mi XP.o R2.o TA.o).mono ?_;rintro e' w2 ⟨rfl,hwr⟩;have th:=aa (cM.trans eC.o hwr);clear hwr;go_wp2
  go_roundw
  case rel=>exact⟨j+1,by omega,by go_num,by show cM _ _ _ _ _ _;rw [ou.o];exact th.o⟩
  case measure=>simp [intOf];omega
 have jU:j=e.aw.length:=by omega
 subst jU;have oK:=aa (show e.aw.take e.aw.length=e.aw from List.take_length);go_wp2
 go_end0
 exact⟨rfl,by have:=Ja.o;rw [oK.o]at this;exact this⟩
structure KS where
 az:List (List UInt8×Nat)
 aK:Nat
 ai:Nat
 lk:List Us
variable{s:KS}
def ew(c:Nat):Nat:=if c=5 then 0 else if c=6 then 1 else if c=3 then 2 else if c=7 then 3 else 4
def KS.tells(s:KS)(aK ai:Nat):Bool:=s.aK==0||(decide (ai<s.ai)||(ai==s.ai&&decide (ew aK<ew s.aK)))
def KS.tell(s:KS)(aK ai:Nat):KS:=if s.tells aK ai then {s with aK:=aK,ai:=ai}else s
def eG(l:List (List UInt8×Nat)):List Value:=l.flatMap λx=> [.string ⟨x.1.toArray⟩,.int .i64 x.2]
theorem ow(l:List (List UInt8×Nat))(x:List UInt8×Nat):eG (l++ [x])=eG l++ [.string ⟨x.1.toArray⟩,.int .i64 x.2]:=by simp [eG]
theorem w_(l:List (List UInt8×Nat))(j:Nat)(hj:j<l.length):(eG l)[j*2]?=some (.string ⟨(l[j].1).toArray⟩)/\(eG l)[j*2+1]?=some (.int .i64 l[j].2):=by
 induction l generalizing j with
 |nil=>simp at hj
 |cons x r ih=>
  rw [show eG (x::r)=.string ⟨x.1.toArray⟩:: .int .i64 x.2::eG r from rfl]
  cases j with
  |zero=>exact⟨rfl,rfl⟩
  |succ j=>
   have:=ih j (by simpa using hj);rw [show(j+1)*2=j*2+1+1 by omega];simpa using this
structure Kk (B kb:Nat) (vb:VK) (s:KS) (sv:Value) (w:World):Prop where
 low:B<=kb
 blk:w.heap[kb]?=some (.cells #[.pointer (some ⟨vb.b,0,none⟩),sv,.int .i64 s.aK,.int .i64 s.ai] 224 (0,0))
 oV:w.ownsRow B 303 2 sv s.az.length (eG s.az)
 n1:sv.ownBlock≠some kb
 vw:∃uv,Vw B vb s.lk uv w/\∀k,jG vb uv k->k≠kb/\sv.ownBlock≠some k
theorem Kk.lt(h:Kk B kb vb s sv w):kb<w.heap.size:=af h.blk
theorem Kk.below(h:Kk B kb vb s sv w)(hb:Below w.heap.size w w'):Kk B kb vb s sv w':=
 ⟨h.low,(hb.block _ h.lt).trans h.blk,bE h.oV (λk _ l=>hb.block k l),h.n1,by obtain⟨uv,hv,hd⟩:=h.vw;exact⟨uv,hv.below hb,hd⟩⟩
theorem Kk.drew(h:Kk B kb vb s sv w):Kk B kb vb s sv w.drew:=h.below ((Below.refl _ _).drew)
theorem Kk.alloc(h:Kk B kb vb s sv w)(o:Obj):Kk B kb vb s sv (w.alloc o):=h.below ((Below.refl _ _).alloc (Nat.le_refl _) _)
theorem Kk.field(h:Kk B kb vb s sv w):
  w.cell? ⟨kb,0,none⟩=some (.pointer (some ⟨vb.b,0,none⟩))/\w.cell? ⟨kb,1,none⟩=some sv/\w.cell? ⟨kb,2,none⟩=some (.int .i64 s.aK)/\w.cell? ⟨kb,3,none⟩=some (.int .i64 s.ai):=by
 refine⟨?_,?_,?_,?_⟩<;>rw [ae h.blk]<;>rfl
theorem Kk.told(h:Kk B kb vb s sv w)(hb:Below w.heap.size w w1)(c p:Nat):
  eh kb w ((w1.setCell ⟨kb,2,none⟩ (.int .i64 c)).setCell ⟨kb,3,none⟩ (.int .i64 p))/\Kk B kb vb {s with aK:=c,ai:=p} sv ((w1.setCell ⟨kb,2,none⟩ (.int .i64 c)).setCell ⟨kb,3,none⟩ (.int .i64 p)):=by
 have h':=h.below hb;refine⟨((eh.aW hb).setCell (p:=⟨kb,2,none⟩) (Or.inl rfl) _).setCell (p:=⟨kb,3,none⟩) (Or.inl rfl) _,⟨h.low,?_,a8 (a8 h'.oV h.n1 _ _) h.n1 _ _,h.n1,by obtain⟨uv,hv,hd⟩:=h'.vw;exact⟨uv,(hv.set (λk hk=>(hd k hk).1) _ _).set (λk hk=>(hd k hk).1) _ _,hd⟩⟩⟩;rw [ax (ax h'.blk 2 _) 3 _];rfl
theorem Kk.view(h:Kk B kb vb s sv w):
  w.cell? ⟨vb.b,1,none⟩=some (.pointer (some ⟨vb.mb,0,none⟩))/\w.cell? ⟨vb.b,2,none⟩=some vb.iv/\vb.b<w.heap.size:=by
 obtain⟨uv,hv,hd⟩:=h.vw;exact⟨hv.field.2.1,hv.field.2.2.1,hv.lt⟩
theorem Kk.found(h:Kk B kb vb s sv w){uv qA:Value}(hv:Vw B vb s.lk uv w)(hd:∀k,jG vb uv k->k≠kb/\sv.ownBlock≠some k){l:List Us}(hm:fQ vb uv qA w w')(hv':Vw B vb l qA w'):
  Below B w w'/\Kk B kb vb {s with lk:=l} sv w':=by
 have hlt:=h.lt;refine⟨hm.dB hv,⟨h.low,?_,bE h.oV (λk e l=>hm.block k l (λe'=>(hd k (Or.inl e')).2 e) (λe'=>(hd k (Or.inr (Or.inr e'))).2 e)),h.n1,qA,hv',λk hk=> ?_⟩⟩
 ·exact(hm.block _ hlt (λe=>(hd _ (Or.inl e)).1 rfl) (λe=>(hd _ (Or.inr (Or.inr e))).1 rfl)).trans h.blk
 rcases hk with hk|hk|hk
 ·exact hd k (Or.inl hk)
 ·exact hd k (Or.inr (Or.inl hk))
 rcases hm.own k hk with e|e
 ·exact hd k (Or.inr (Or.inr e))
 exact⟨by omega,λe'=>by have:=(aG h.oV k e').2;omega⟩
theorem bA(w:World)(n:Nat):Below w.heap.size w (w.drewN n):=⟨rfl,rfl,rfl,Nat.le_refl _,λ_ _=>rfl⟩
theorem Ef(c:Nat)(w:World):Calls prog 217 #[.int .i64 c] w λe w'=>e=.returned (.int .i64 (ew c))/\w'=w:=by
 have hx:c=5\/c=6\/c=3\/c=7\/(¬c=5/\¬c=6/\¬c=3/\¬c=7):=by omega
 rcases hx with rfl|rfl|rfl|rfl|⟨h5,h6,h3,h7⟩
 case inr.inr.inr.inr=>
  have HO:=aa (show ew c=4 by simp [ew,h5,h6,h3,h7])
  have e5:((c:Int)==5)=false:=by simp;omega
  have e6:((c:Int)==6)=false:=by simp;omega
  have e3:((c:Int)==3)=false:=by simp;omega
  have e7:((c:Int)==7)=false:=by simp;omega
  go_enter func217,ntmps217
  go_wp2;go_ret;exact⟨bR (by rw [HO.o];rfl),rfl⟩
 all_goals
  go_enter func217,ntmps217
  go_wp2;go_ret;exact⟨rfl,rfl⟩
theorem yL(B kb:Nat)(vb:VK)(s:KS)(sv:Value)(w:World)(h:Kk B kb vb s sv w)(c p:Nat):
  Calls prog 176 #[.pointer (some ⟨kb,0,none⟩),.int .i64 c,.int .i64 p] w λe w'=>
   e=.returned (.tuple #[])/\eh kb w w'/\Kk B kb vb (s.tell c p) sv w':=by
 have h1:=h.lt;obtain⟨f0,f1,f2,f3⟩:=h.field;have g0:=aj h.blk;have HM:=aa h;clear h
 rcases hc:((s.aK:Int)==0)with _|_
 ·have hcn:¬s.aK=0:=by simpa using hc
  rcases hlt:decide ((p:Int)<(s.ai:Int))with _|_
  ·have dG:¬p<s.ai:=by simp at hlt;omega
   rcases heq:((p:Int)==(s.ai:Int))with _|_
   ·have hne:¬p=s.ai:=by simp at heq;omega
    have HT:=aa (show s.tell c p=s by simp [KS.tell,KS.tells,hcn,dG,hne])
    go_enter func176,ntmps176
    go_wp2_with fail
    go_quiet (fail)
    go_wp2
    go_end0
    exact⟨rfl,eh.aW (bA w nq),by rw [HT.o];exact HM.o.below (bA w nq)⟩
   ·have abm:p=s.ai:=by simp at heq;omega
    subst abm;clear hlt heq
    have hlt:decide ((s.ai:Int)<(s.ai:Int))=false:=by simp
    have heq:((s.ai:Int)==(s.ai:Int))=true:=by simp
    rcases hrk:decide (((ew c:Nat):Int)<((ew s.aK:Nat):Int))with _|_
    ·have sX:¬ew c<ew s.aK:=by simp at hrk;omega
     have hrd:decide (ew c<ew s.aK)=false:=by simp at hrk⊢;omega
     have HT:=aa (show s.tell c s.ai=s by simp [KS.tell,KS.tells,hcn,sX])
     go_enter func176,ntmps176
     go_wp2_with fail
     go_quiet ((go_at_call 217;exact Calls.quiet_of_same (Ef _ _)))
     go_wp2
     go_end0
     exact⟨rfl,eh.aW (bA w nq),by rw [HT.o];exact HM.o.below (bA w nq)⟩
    ·have sX:ew c<ew s.aK:=by simp at hrk;omega
     have hrd:decide (ew c<ew s.aK)=true:=by simp;omega
     have HT:=aa (show s.tell c s.ai={s with aK:=c,ai:=s.ai} by simp [KS.tell,KS.tells,hcn,sX])
     go_enter func176,ntmps176
     go_wp2_with fail
     go_quiet ((go_at_call 217;exact Calls.quiet_of_same (Ef _ _)))
     go_wp2
     go_end0
     exact⟨rfl,by rw [HT.o];exact HM.o.told (bA w nq) c s.ai⟩
  ·have hl:p<s.ai:=by simp at hlt;omega
   have HT:=aa (show s.tell c p={s with aK:=c,ai:=p} by simp [KS.tell,KS.tells,hl])
   go_enter func176,ntmps176
   go_wp2_with fail
   go_quiet (fail)
   go_wp2
   go_end0
   exact⟨rfl,by rw [HT.o];exact HM.o.told (bA w nq) c p⟩
 have HT:=aa (show s.tell c p={s with aK:=c,ai:=p} by have:s.aK=0:=(by simpa using hc);simp [KS.tell,KS.tells,this])
 have hc0:s.aK=0:=by simpa using hc
 rw [hc0]at f2;have TB:w.cell? ⟨kb,2,none⟩=some (.int .i64 0):=f2;clear f2 hc hc0
 go_enter func176,ntmps176
 go_wp2_with fail
 go_quiet (fail)
 go_wp2
 go_end0
 exact⟨rfl,by rw [HT.o];exact HM.o.told (bA w nq) c p⟩
end Go.Proofs.YtpmmjkiclngpmaaGreatDoor
