/- YtpmmjkiclngpmaaGreatDoorB42 -/
import Derived.Test.YtpmmjkiclngpmaaGreatDoorB38
import Derived.Test.YtpmmjkiclngpmaaGreatDoorB41
set_option maxRecDepth 100000
set_option linter.unusedSimpArgs false
set_option linter.unusedVariables false
set_option maxHeartbeats 12800000
namespace Go.Proofs.YtpmmjkiclngpmaaGreatDoor
open Tryz
open Go.RowKit
variable{ag n nm:Nm}{md:Mod}{E:Nm->Option Mod}{u:Us}{o:Ob}{m:Md}{L L':List Md}{s:qb}
theorem H5{g:Ex->CS->CS}{U:Ex->Sym->Prop}{l:List Ex}(h:∀x∈l,∀s y,y∈(g x s).bq->y∈s.bq\/U x y):∀s y,y∈(gG g l s).bq->y∈s.bq\/∃x∈l,U x y:=by
 induction l with
 |nil=>intro s y hy;exact Or.inl hy
 |cons x r ih=>
  intro s y hy
  rcases ih (λz hz=>h z (by simp [hz])) (g x s) y hy with h1|⟨z,hz,hu⟩
  ·rcases h x (by simp) s y h1 with h2|h2
   ·exact Or.inl h2
   ·exact Or.inr ⟨x,by simp,h2⟩
  ·exact Or.inr ⟨z,by simp [hz],hu⟩
theorem Lp(fnd:wY)(m:Nat):∀(e:Ex) (s:CS) (y:Sym),y∈(gen fnd m e s).bq->y∈s.bq\/∃n,CallsIn m e n/\y=fnd.sym n:=by
 induction m with
 |zero=>intro e s y hy;exact Or.inl hy
 |succ m ih=>
  intro e s y
  have part:∀x∈e.aw,(∃n,CallsIn m x n/\y=fnd.sym n)->∃n,CallsIn (m+1) e n/\y=fnd.sym n:=λx hx ⟨n,h1,h2⟩=>⟨n,Or.inr ⟨x,hx,h1⟩,h2⟩
  have all:∀l:List Ex,(∀x∈l,x∈e.aw)->y∈(gG (gen fnd m) l s).bq->y∈s.bq\/∃n,CallsIn (m+1) e n/\y=fnd.sym n:=λl hl hy=>by
   rcases H5 (U:=λx y=>∃n,CallsIn m x n/\y=fnd.sym n) (λx _ s y hy=>ih x s y hy) s y hy with h|⟨x,hx,h⟩
   ·exact Or.inl h
   ·exact Or.inr (part x (hl x hx) h)
  unfold gen
  split
  ·intro hy;exact Or.inl hy
  split
  ·intro hy;exact Or.inl hy
  split
  ·exact all _ (λx hx=>List.mem_of_mem_take hx)
  split
  ·split
   ·next a b c hp=>
    intro hy;have Wm:y∈(gen fnd m c (((gen fnd m b ((gen fnd m a s).emit 4 0)).emit 3 0).land (gen fnd m a s).aK.length)).bq:=hy
    rcases ih c _ y Wm with h|h
    ·have h':y∈(gen fnd m b ((gen fnd m a s).emit 4 0)).bq:=h
     rcases ih b _ y h' with h|h
     ·have h':y∈(gen fnd m a s).bq:=h
      rcases ih a _ y h' with h|h
      ·exact Or.inl h
      ·exact Or.inr (part a (by rw [hp];simp) h)
     ·exact Or.inr (part b (by rw [hp];simp) h)
    ·exact Or.inr (part c (by rw [hp];simp) h)
   ·intro hy;exact Or.inl hy
  split
  ·split
   ·next a b hp=>
    intro hy;have Wm:y∈(gen fnd m b (((gen fnd m a s).enter e.ag).emit 2 (gen fnd m a s).az.length)).bq:=hy
    rcases ih b _ y Wm with h|h
    ·have h':y∈(gen fnd m a s).bq:=h
     rcases ih a _ y h' with h|h
     ·exact Or.inl h
     ·exact Or.inr (part a (by rw [hp];simp) h)
    ·exact Or.inr (part b (by rw [hp];simp) h)
   ·intro hy;exact Or.inl hy
  split
  ·next hk=>
   intro hy;have Wm:y∈(gG (gen fnd m) e.aw s).bq++ [fnd.sym e.ag]:=hy
   rcases List.mem_append.1 Wm with h|h
   ·exact all _ (λx hx=>hx) h
   ·exact Or.inr ⟨e.ag,Or.inl ⟨hk,rfl⟩,by simpa using h⟩
  ·intro hy
   exact all _ (λx hx=>hx) hy
theorem u_(l:List sL)(s:CS):(enters l s).bq=s.bq:=by
 induction l generalizing s with
 |nil=>rfl
 |cons x r ih=>show(enters r _).bq=_;rw [ih];rfl
theorem CZ(fnd:wY)(m:Nat)(f:iL)(lk:List Us):∀y∈(dx fnd m f lk).bq,∃n,CallsIn (m+1) f.br n/\y=fnd.sym n:=by
 intro y hy;have Wm:y∈(gen fnd (m+1) f.br (enters f.ay (begun lk))).bq:=hy
 rcases Lp fnd (m+1) f.br _ y Wm with h|h
 ·rw [u_]at h;exact absurd h (by simp [begun])
 exact h
theorem H6(fnd:wY)(m:Nat)(f:iL)(lk:List Us):∀x∈(dx fnd m f lk).aK,x.1=5->0<=x.2/\x.2.toNat<(dx fnd m f lk).bq.length:=by
 obtain⟨d,k,h1,h2,h3,h4⟩:=(Vc fnd (λ_=>0) (m+1) f.br (enters f.ay (begun lk))).trans (Gn.emit (λ_=>0) _ 6 0 (by omega));have he:=(kI f.ay (begun lk) (by simp [begun])).2.2.1;intro x hx
 have Oq:x∈(enters f.ay (begun lk)).aK++d:=by rw [<-h1];exact hx
 rcases List.mem_append.1 Oq with h|h
 ·rw [he]at h;cases h
 exact h4 x h
theorem zB{gW:Bool}:∀{l:List iL} {f:iL},jn gW ag l=some f->f∈l/\f.ag=ag:=by
 intro l
 induction l with
 |nil=>intro f h;cases h
 |cons x r ih=>
  intro f h;unfold jn at h
  split at h
  ·next hc=>simp only [Option.some.injEq]at h;subst h;exact⟨by simp,hc.2⟩
  ·obtain⟨a,b⟩:=ih h;exact⟨by simp [a],b⟩
theorem Lq:∀{l:List (Option Mod)} {f:iL},j9 ag l=some f->f.ag=ag/\∃md,some md∈l/\f∈md.aR:=by
 intro l
 induction l with
 |nil=>intro f h;cases h
 |cons x r ih=>
  intro f h
  cases x with
  |none=>obtain⟨a,md,b,c⟩:=ih h;exact⟨a,md,by simp [b],c⟩
  |some md=>
   unfold j9 at h
   split at h
   ·next g hg=>simp only [Option.some.injEq]at h;subst h;obtain⟨a,b⟩:=zB hg;exact⟨b,md,by simp,a⟩
   ·obtain⟨a,md,b,c⟩:=ih h;exact⟨a,md,by simp [b],c⟩
def Yp(E:Nm->Option Mod):Prop:=∀n md,E n=some md->AB 601 md
theorem Lr(hE:Yp E)(bp:AB 601 md)(h:tW md (fZ E md) n):n.length<=100000:=by
 unfold tW rk at h
 split at h
 ·next f hf=>obtain⟨a,b⟩:=zB hf;rw [<-b];exact(bp.fs f a).ag
 rw [Option.isSome_map]at h;obtain⟨f,hf⟩:=Option.isSome_iff_exists.1 h;obtain⟨a,md',b,c⟩:=Lq hf;unfold fZ at b;obtain⟨i,_,hi⟩:=List.mem_map.1 b;rw [<-a];exact((hE _ _ hi).fs f c).ag
theorem Ss:∀(l:List (lu×Option Mod)),(∀x∈l,x.1.ag.length<=100000)->(EA ag l).length<=100000:=by
 intro l
 induction l with
 |nil=>intro _;simp [EA]
 |cons x r ih=>
  intro h;unfold EA
  split
  ·exact h x (by simp)
  ·exact ih (λy hy=>h y (by simp [hy]))
theorem CallsIn.TK{known:Nm->Prop}:∀{m:Nat} {e:Ex} {n:Nm},lV known m e->CallsIn m e n->known n:=by
 intro m
 induction m with
 |zero=>intro e n h;exact absurd h (by simp [lV])
 |succ m ih=>
  intro e n h hc;obtain⟨_,_,_,_,q3,hp⟩:=h
  rcases hc with⟨h3,rfl⟩|⟨x,hx,hc⟩
  ·exact q3 h3
  ·exact ih (hp x hx) hc
theorem Su(hE:Yp E)(bp:AB 601 md)(h0:(fI E md).aK=0)(lK:nm.length<=8){f:iL}(hf:f∈md.aR)(lk:List Us):K6 (AF nm (zm nm md (fZ E md)) 700 f lk):=by
 have hsz:=(bp.fs f hf).br.En (700+1);have hg:=gH (zm nm md (fZ E md)) (700+1) f.br (enters f.ay (begun lk));have he:=kI f.ay (begun lk) (by simp [begun]);have hec:=u_ f.ay (begun lk);refine⟨?_,H6 _ _ _ _,?_,?_,⟨by show nm.length<=_;omega,(bp.fs f hf).ag⟩⟩
 ·show((gen (zm nm md (fZ E md)) (700+1) f.br (enters f.ay (begun lk))).aK++ [(6,0)]).length<=_
  rw [List.length_append];have:=hg.aK.2;rw [he.2.2.1,show(begun lk).aK.length=0 from rfl]at this;simp only [List.length_cons,List.length_nil];omega
 ·intro x hx
  obtain⟨n,h1,rfl⟩:=CZ _ _ _ _ x hx;have hk:tW md (fZ E md) n:=CallsIn.TK (BD bp h0 f hf) h1;have hn:=Lr hE bp hk;refine⟨?_,hn⟩
  show(match jn false n md.aR with|some _=>nm|none=>EA n (md.aq.zip (fZ E md))).length<=_
  split
  ·omega
  ·exact Ss _ λy hy=>bp.im _ (List.of_mem_zip hy).1
 show(gen (zm nm md (fZ E md)) (700+1) f.br (enters f.ay (begun lk))).bq.length<=_;have:=hg.bq;rw [hec,show(begun lk).bq.length=0 from rfl]at this;omega
theorem BH{fnd:wY}{m:Nat}:∀{l:List iL} {lk:List Us},(f_ nm fnd m l lk).1.length=l.length/\∀c∈(f_ nm fnd m l lk).1,∃f∈l,∃Ao,c=AF nm fnd m f Ao:=by
 intro l
 induction l with
 |nil=>intro lk;exact⟨rfl,λc hc=>by cases hc⟩
 |cons f r ih=>
  intro lk;obtain⟨a,b⟩:=ih (lk:=(dx fnd m f lk).lk);refine⟨by show(_::(f_ nm fnd m r _).1).length=_;rw [List.length_cons,a,List.length_cons],λc hc=> ?_⟩;have hc':c∈AF nm fnd m f lk::(f_ nm fnd m r (dx fnd m f lk).lk).1:=hc
  rcases List.mem_cons.1 hc' with rfl|hc'
  ·exact⟨f,by simp,lk,rfl⟩
  ·obtain⟨g,hg,q⟩:=b c hc';exact⟨g,by simp [hg],q⟩
theorem C_{x:Nm×Nm}(l:List (Nm×Nm)):x∈bT l->x∈l:=by
 have key:∀(n:Nat) (l:List (Nm×Nm)),l.length=n->x∈bT l->x∈l:=by
  intro n
  induction n with
  |zero=>intro l hl h;rw [List.eq_nil_of_length_eq_zero hl]at h;cases h
  |succ n ih=>
   intro l hl h;obtain⟨a,y,rfl⟩:∃a y,l=a++ [y]:=⟨l.dropLast,l.getLast (by intro e;rw [e]at hl;simp at hl),(List.dropLast_concat_getLast _).symm⟩;rw [iT]at h;have ha:=ih a (by simpa using hl);unfold iR at h
   split at h
   ·exact List.mem_append.2 (Or.inl (ha h))
   ·rcases List.mem_append.1 h with h|h
    ·exact List.mem_append.2 (Or.inl (ha h))
    ·exact List.mem_append.2 (Or.inr h)
 exact key _ l rfl
theorem H7{sf:Nm×Nm->List UInt8}{l:List (Nm×Nm)}(h:u∈lR sf l):fg u∈l/\u.s=sf (fg u):=by
 unfold lR at h;obtain⟨x,hx,rfl⟩:=List.mem_map.1 h;have:=C_ _ hx;unfold eK at this;exact⟨(List.mergeSort_perm _ _).mem_iff.1 this,rfl⟩
theorem H8(sf:Nm×Nm->List UInt8)(l:List (Nm×Nm)):(lR sf l).length<=l.length:=by
 unfold lR;rw [List.length_map];have h:=uK (eK l) (eK l).length (Nat.le_refl _);rw [List.take_length]at h;have:(eK l).length=l.length:=(List.mergeSort_perm _ _).length_eq;omega
structure OG (o:Ob):Prop where
 ok:ZI o
 cf:∀f∈o.aR,K6 f
 fl:o.aR.length<=601
def Made(n:Nm)(o:Ob):Prop:=n.length<=8/\o.aX.length<=600/\∃E md,Yp E/\ir o.aX=some md/\(fI E md).aK=0/\o.aR=(lS n E md).1/\o.aeg=kC n E md
theorem wI{t:List UInt8}(ht:t.length<=600)(h:ir t=some md):AB 601 md:=by
 unfold ir at h
 split at h
 ·cases h
 next hf=>
 simp only [Option.some.injEq]at h;subst h;exact B3 _ ht (by simpa using hf)
theorem Ls(bp:AB 601 md)(h:u∈kC nm E md):∃i∈md.aq,u.m=i.ag:=by
 obtain⟨h1,_⟩:=H7 h
 rcases List.mem_append.1 h1 with h1|h1
 ·obtain⟨v,hv,e⟩:=List.mem_map.1 h1
  obtain⟨n,_,hu⟩:=Jx bp hv;obtain⟨i,hi,hm⟩:=(BB hu).2.2;refine⟨i,hi,?_⟩;have:v.m=u.m:=congrArg Prod.fst e;rw [<-this];exact hm
 obtain⟨i,hi,e⟩:=List.mem_map.1 h1;exact⟨i,hi,(congrArg Prod.fst e).symm⟩
theorem Made.og(h:Made n o):OG o:=by
 obtain⟨hn,ht,E,md,hE,hf,h0,v_,RX⟩:=h;have bp:=wI ht hf;refine⟨⟨λu hu=> ?_,?_⟩,λf hf=> ?_,?_⟩
 ·rw [RX]at hu
  obtain⟨i,hi,hm⟩:=Ls bp hu;rw [hm];exact bp.im i hi
 ·rw [RX]
  have h1:=H8 (Sm E) ((lS n E md).2.map fg++md.aq.map λi=>(i.ag,[]));have h2:=Jz (nm:=n) (E:=E) bp;have h3:=bp.il;rw [List.length_append,List.length_map,List.length_map]at h1;unfold kC;omega
 ·rw [v_]at hf
  obtain⟨g,hg,lk,rfl⟩:=BH.2 f hf;exact Su hE bp h0 hn hg lk
 rw [v_];have:=(BH (nm:=n) (fnd:=zm n md (fZ E md)) (m:=700) (l:=md.aR) (lk:=(fI E md).lk)).1;unfold lS;rw [this];exact bp.fl
theorem H9(hE:Yp E)(hn:m.ag.length<=8)(ht:m.now.length<=600)(h:(ez E m).2=some o):Made m.ag o:=by
 unfold ez at h
 split at h
 ·cases h
 next md hf=>
 simp only at h
 split at h
 ·next h0=>
  simp only [Option.some.injEq]at h;subst h;exact⟨hn,ht,E,md,hE,hf,h0,rfl,rfl⟩
 cases h
structure Dg where
 ag:Nm
 aK:Nat
 ai:Nat
def b_(l:List Dg):List Value:=l.flatMap λd=> [.string ⟨d.ag.toArray⟩,.int .i64 (d.aK:Int),.int .i64 (d.ai:Int)]
theorem qj(l:List Dg)(d:Dg):b_ (l++ [d])=b_ l++ [.string ⟨d.ag.toArray⟩,.int .i64 (d.aK:Int),.int .i64 (d.ai:Int)]:=by simp [b_]
def cn(E:Nm->Option Mod)(m:Md):Md:=if curr E m then m else {m with obj:=(ez E m).2}
def vd(E:Nm->Option Mod)(m:Md):Option Dg:=if curr E m then none else if(ez E m).1.1=0 then none else some ⟨m.ag,(ez E m).1.1,(ez E m).1.2⟩
def cA(E:Nm->Option Mod)(L:List Md):List Dg:=L.filterMap (vd E)
def en(E:Nm->Option Mod)(L:List Md):List Nm:=(L.filter λm=> !curr E m).map λm=>m.ag
def bz(s:qb):List Dg×qb:=
 (cA (aP s.L) s.L,⟨s.L.map (cn (aP s.L)),en (aP s.L) s.L,if cA (aP s.L) s.L= []then some (uY ((s.L.map (cn (aP s.L))).map fV))else none⟩)
theorem rz(E:Nm->Option Mod)(m:Md):(cn E m).ag=m.ag/\(cn E m).now=m.now:=by unfold cn;split<;>exact⟨rfl,rfl⟩
theorem nZ(E:Nm->Option Mod)(L:List Md)(j:Nat):aZ (cS (cn E) L j)=aZ L:=by
 unfold cS aZ;rw [List.map_append,List.map_map]
 have:(λm:Md=>m.ag)∘cn E=λm=>m.ag:=by funext m;exact(rz E m).1
 rw [this,<-List.map_append,List.take_append_drop]
theorem OP{f:Md->Md}(hf:∀m,(f m).ag=m.ag/\(f m).now=m.now)(L:List Md)(z:Nm):(getM (L.map f) z).map (λm=>m.now)=(getM L z).map λm=>m.now:=by
 unfold getM
 induction L with
 |nil=>rfl
 |cons y r ih=>
  rw [List.map_cons,List.find?_cons,List.find?_cons,(hf y).1]
  rcases (y.ag==z)with _|_
  ·exact ih
  ·simp only [Option.map_some,(hf y).2]
theorem xq(A B:List Md)(z:Nm):getM (A++B) z=(getM A z).or (getM B z):=by
 unfold getM;rw [List.find?_append]
theorem zC(E:Nm->Option Mod)(L:List Md)(j:Nat)(z:Nm):(getM (cS (cn E) L j) z).map (λm=>m.now)=(getM L z).map λm=>m.now:=by
 unfold cS;have h:=OP (f:=cn E) (rz E) (L.take j) z
 conv=>rhs;rw [<-List.take_append_drop j L]
 rw [xq,xq]
 rcases h1:getM ((L.take j).map (cn E)) z with _|a<;>rcases h2:getM (L.take j) z with _|b<;>rw [h1,h2]at h<;>simp at h⊢
 exact h
theorem H_(h:∀z,(getM L' z).map (λm=>m.now)=(getM L z).map λm=>m.now):aP L'=aP L:=by
 funext z
 have:=h z;unfold aP
 rcases h1:getM L' z with _|a<;>rcases h2:getM L z with _|b<;>rw [h1,h2]at this<;>simp at this⊢
 rw [this]
theorem EZ(h:∀z,(getM L' z).map (λm=>m.now)=(getM L z).map λm=>m.now):gz L'=gz L:=by
 funext z
 have:=h z;unfold gz
 rcases h1:getM L' z with _|a<;>rcases h2:getM L z with _|b<;>rw [h1,h2]at this<;>simp at this⊢
 rw [this]
theorem OQ(h:bY (aZ L))(j:Nat)(hj:j<L.length)(x:Option Ob):gB L[j].ag x L=L.set j {L[j]with obj:=x}:=by
 unfold gB
 apply List.ext_getElem
 ·simp
 intro i h1 h2;rw [List.getElem_map]
 by_cases e:i=j
 ·subst e;rw [List.getElem_set_self,if_pos rfl]
 rw [List.getElem_set_ne (Ne.symm e)]
 have hi:i<L.length:=by simpa using h1
 have key:∀a b (ha:a<L.length) (hb:b<L.length),a<b->L[a].ag≠L[b].ag:=λa b ha hb hab=>by
  have:=List.pairwise_iff_getElem.1 h.ne a b (by simpa using ha) (by simpa using hb) hab;simpa using this
 have hne:L[i].ag≠L[j].ag:=by
  rcases Nat.lt_or_gt_of_ne e with q|q
  ·exact key i j hi hj q
  ·exact(key j i hj hi q).symm
 rw [if_neg hne]
theorem zD(h:bY (aZ L))(j:Nat)(hj:j<L.length):en E (L.take (j+1))=if curr E L[j]then en E (L.take j)else jk L[j].ag (en E (L.take j)):=by
 have e:en E (L.take (j+1))=en E (L.take j)++(if curr E L[j]then []else [L[j].ag]):=by
  unfold en;rw [List.take_succ_eq_append_getElem hj,List.filter_append,List.map_append]
  congr 1
  rcases hc:curr E L[j]with _|_<;>simp [hc]
 rw [e]
 split
 ·simp
 next hc=>
 have hr1:bY (en E (L.take j)++ [L[j].ag]):=by
  have:(en E (L.take j)++ [L[j].ag]).Sublist (aZ L):=by
   have h1:en E (L.take (j+1))=en E (L.take j)++ [L[j].ag]:=by rw [e,if_neg hc]
   rw [<-h1];exact(List.Sublist.map _ (List.filter_sublist.trans (List.take_sublist _ _)))
  exact List.Pairwise.sublist this h
 have hr2:bY (jk L[j].ag (en E (L.take j))):=bY.jk (List.Pairwise.sublist (List.sublist_append_left _ _) hr1)
 refine bY.ext hr1 hr2 λx=> ?_
 rw [jS,List.mem_append];simp only [List.mem_singleton];exact or_comm
theorem Lt(j:Nat):∀x∈en E (L.take j),x∈aZ L:=λx hx=>by
 unfold en at hx;obtain⟨m,hm,rfl⟩:=List.mem_map.1 hx;exact List.mem_map.2 ⟨m,List.mem_of_mem_take (List.mem_filter.1 hm).1,rfl⟩
theorem n_(j:Nat)(hj:j<L.length):cA E (L.take (j+1))=cA E (L.take j)++(vd E L[j]).toList:=by
 unfold cA;rw [List.take_succ_eq_append_getElem hj,List.filterMap_append]
 congr 1
theorem nj:(cA E L).length<=L.length:=List.length_filterMap_le _ _
def iH(s:qb)(j:Nat):qb:=⟨cS (cn (aP s.L)) s.L j,en (aP s.L) (s.L.take j),s.vX⟩
theorem nk(s:qb)(j:Nat):aP (iH s j).L=aP s.L/\gz (iH s j).L=gz s.L:=⟨H_ (zC _ _ _),EZ (zC _ _ _)⟩
theorem OS(s:qb)(j:Nat)(hj:j<s.L.length)(h2:j<(iH s j).L.length):(iH s j).L[j]=s.L[j]:=ng _ _ _ hj
theorem Lu(s:qb)(j:Nat)(hj:j<s.L.length):s.L[j]∈(iH s j).L:=by
 have h2:j<(iH s j).L.length:=by show j<(cS _ _ _).length;rw [fU];exact hj
 have:=List.getElem_mem h2;rw [OS s j hj h2]at this;exact this
theorem H'(h:bY (aZ s.L))(j:Nat)(hj:j<s.L.length)(hc:curr (aP s.L) s.L[j]=true):iH s (j+1)=iH s j:=by
 unfold iH;rw [zD h j hj,if_pos hc,nh _ _ _ hj]
 have e:cn (aP s.L) s.L[j]=s.L[j]:=by unfold cn;rw [if_pos hc]
 rw [e];have:=ng (cn (aP s.L)) s.L j hj
 congr 1
 rw [<-this,List.set_getElem_self]
theorem Ia(h:bY (aZ s.L))(j:Nat)(hj:j<s.L.length)(hc:curr (aP s.L) s.L[j]=false):BC (iH s j) s.L[j]=iH s (j+1):=by
 unfold BC;rw [(nk s j).1];unfold iH
 have h2:j<(cS (cn (aP s.L)) s.L j).length:=by rw [fU];exact hj
 have e1:=ng (cn (aP s.L)) s.L j hj;have e2:=OQ (L:=cS (cn (aP s.L)) s.L j) (by rw [nZ];exact h) j h2 (ez (aP s.L) s.L[j]).2;rw [e1]at e2;rw [zD h j hj,if_neg (by simp [hc]),nh _ _ _ hj]
 have e3:cn (aP s.L) s.L[j]={s.L[j]with obj:=(ez (aP s.L) s.L[j]).2}:=by unfold cn;rw [if_neg (by simp [hc])]
 rw [e3];simp only;rw [e2]
def E_(s:qb):Prop:=∀m∈s.L,∀o,m.obj=some o->Made m.ag o
theorem OT(hs:∀m∈L,m.ag.length<=8/\m.now.length<=600):Yp (aP L):=λn md h=>rq hs h
theorem xr(hE:Yp E)(hs:m.ag.length<=8/\m.now.length<=600)(hm:∀o,m.obj=some o->Made m.ag o):∀o,(cn E m).obj=some o->Made (cn E m).ag o:=by
 intro o ho;rw [(rz E m).1];unfold cn at ho
 split at ho
 ·exact hm o ho
 exact H9 hE hs.1 hs.2 ho
theorem E_.step(h:E_ s)(hs:∀m∈s.L,m.ag.length<=8/\m.now.length<=600)(j:Nat):E_ (iH s j):=by
 intro m hm;have Ve:m∈(s.L.take j).map (cn (aP s.L))++s.L.drop j:=hm
 rcases List.mem_append.1 Ve with q|q
 ·obtain⟨m0,h0,rfl⟩:=List.mem_map.1 q
  have:=List.mem_of_mem_take h0;exact xr (OT hs) (hs _ this) (h _ this)
 exact h m (List.mem_of_mem_drop q)
theorem E_.build(h:E_ s)(hs:∀m∈s.L,m.ag.length<=8/\m.now.length<=600):E_ (bz s).2:=by
 intro m hm;obtain⟨m0,h0,rfl⟩:=List.mem_map.1 hm;exact xr (OT hs) (hs _ h0) (h _ h0)
theorem Ib(h:cA E L= []):∀m∈L.map (cn E),m.obj.isSome=true:=by
 intro m hm;obtain⟨m0,h0,rfl⟩:=List.mem_map.1 hm
 have h1:vd E m0=none:=by
  unfold cA at h;rw [List.filterMap_eq_nil_iff]at h;exact h m0 h0
 unfold vd at h1;unfold cn
 split
 ·next hc=>
  unfold curr at hc
  cases ho:m0.obj with
  |none=>rw [ho]at hc;cases hc
  |some o=>rfl
 next hc=>
 rw [if_neg hc]at h1
 split at h1
 ·next h2=>
  show(ez E m0).2.isSome=true;unfold ez at h2⊢
  split
  ·next hf=>rw [hf]at h2;simp at h2
  ·next md hf=>rw [hf]at h2;simp only at h2⊢;rw [if_pos h2];rfl
 cases h1
end Go.Proofs.YtpmmjkiclngpmaaGreatDoor
namespace Go.Proofs.YtpmmjkiclngpmaaGreatDoor
open Tryz
open Go.RowKit Go.Maps
variable{w w' w1:World}{j:Nat}{sv:Value}{s:qb}{p:SP}
theorem pA:(prog.info? 61).map (λi=>(i.zero,i.size,i.bytes))=some (some (.agg #[.string ⟨#[]⟩,.int .i64 0,.int .i64 0]),3,32):=by kernel_rfl
def SP.with(p:SP)(v:Value):SP:={p with ex:=λk=>p.ex k\/v.ownBlock=some k}
structure OU (w1:World) (p:SP) (s:qb) (sv:Value) (j:Nat) (w:World):Prop where
 but:bG p.own w1 w
 st:cx w (p.with sv) (iH s j)
 Da:w.ownsRow w1.heap.size 61 3 sv (cA (aP s.L) (s.L.take j)).length (b_ (cA (aP s.L) (s.L.take j)))
theorem OU.below(h:OU w1 p s sv j w)(hb:Below w.heap.size w w'):OU w1 p s sv j w':=
 ⟨h.but.trans (bG.aW hb),h.st.below hb,bE h.Da λk _ l=>hb.block k l⟩
theorem OU.tell{Wn:Value}{n:Nat}(gC:∀k,p.own k->¬p.ex k)(Mv:∀k,p.own k->k<w1.heap.size)(mF:bG p.own w1 w)(hst:cx w (p.with sv) (iH s (j+1))){cs:List Value}(hdi:w.ownsRow w1.heap.size 61 3 sv n cs)(hg:w.grownBy w' sv.ownBlock)(hd':w'.ownsRow w1.heap.size 61 3 Wn (cA (aP s.L) (s.L.take (j+1))).length (b_ (cA (aP s.L) (s.L.take (j+1)))))(hw:∀k,Wn.ownBlock=some k->sv.ownBlock=some k\/w.heap.size<=k):OU w1 p s Wn (j+1) w':=by
 have hno:∀k,p.own k->sv.ownBlock≠some k:=λk hk e=>by have:=(aG hdi k e).1;have:=Mv k hk;omega
 have hsz:=mF.size;refine⟨⟨hg.os.trans mF.os,hg.tape.trans mF.tape,hg.output.trans mF.output,Nat.le_trans mF.size hg.size,λk hk hne=>(hg.block k (by omega) (λe=>by have:=(aG hdi k e.symm).1;omega)).trans (mF.block k hk hne)⟩,?_,hd'⟩
 have h0:cx w {p with ex:=λk=>p.ex k\/sv.ownBlock=some k\/Wn.ownBlock=some k} (iH s (j+1)):=hst.more (λk=>p.ex k\/sv.ownBlock=some k\/Wn.ownBlock=some k) λk hk e=>Or.inr (by
  rcases e with e|e|e
  ·exact Or.inl e
  ·exact Or.inr e
  ·rcases hw k e with q|q
   ·exact Or.inr q
   ·omega)
 have h1:cx w' {p with ex:=λk=>p.ex k\/sv.ownBlock=some k\/Wn.ownBlock=some k} (iH s (j+1)):=h0.Bj (λk hk e=>by
  rcases e with e|e|e
  ·exact gC k hk e
  ·exact hno k hk e
  ·rcases hw k e with q|q
   ·exact hno k hk q
   ·have:=Mv k hk;omega) (λk hk he=>hg.block k hk (λe=>he (Or.inr (Or.inl e.symm))))
 exact h1.more (λk=>p.ex k\/Wn.ownBlock=some k) λk hk e=>Or.inr (e.elim Or.inl λe=>Or.inr (Or.inr e))
theorem cx.Z_{s:qb}(h:cx w p s){ip:Option Addr}{im:Option (List CF)}(hi:Ky (λk=>¬p.o k) w ip im):bG p.own w (w.setCell ⟨p.sb,3,none⟩ (.pointer ip))/\cx (w.setCell ⟨p.sb,3,none⟩ (.pointer ip)) p {s with vX:=im}:=by
 have yi:=h.yM
 have hbl:∀k,k≠p.sb->(w.setCell ⟨p.sb,3,none⟩ (.pointer ip)).heap[k]?=w.heap[k]?:=λk hne=>Below.heap_setCell _ _ _ _ hne
 have fG:∀k,¬p.o k->k<w.heap.size->¬p.o k/\(w.setCell ⟨p.sb,3,none⟩ (.pointer ip)).heap[k]?=w.heap[k]?:=λk h1 h2=>⟨h1,hbl k (λe=>h1 (Or.inl (Or.inl e)))⟩
 refine⟨(bG.refl _ _).set (Or.inl (Or.inl rfl)) _ _,⟨ip,?_,hi.keep fG⟩,h.g_.keep (hbl _ (Ne.symm yi.1)),?_,h.comp.keep (hbl _ (Ne.symm yi.2.2)),h.n1,h.n2,h.n3,h.ku,h.small⟩
 ·obtain⟨ip0,a,_⟩:=h.blk
  rw [ax a];rfl
 obtain⟨ov,a,b⟩:=h.mP;exact⟨ov,a.keep (hbl _ (Ne.symm yi.2.1)),λm hm o ho=>(b m hm o ho).keep fG⟩
end Go.Proofs.YtpmmjkiclngpmaaGreatDoor
