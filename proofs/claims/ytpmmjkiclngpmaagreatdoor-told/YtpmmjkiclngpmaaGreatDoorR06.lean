/- YtpmmjkiclngpmaaGreatDoorR06 -/
import Derived.Test.YtpmmjkiclngpmaaGreatDoorR05
import Derived.Test.YtpmmjkiclngpmaaGreatDoorB42
set_option maxRecDepth 100000
set_option linter.unusedSimpArgs false
set_option linter.unusedVariables false
set_option maxHeartbeats 12800000
namespace Go.Proofs.YtpmmjkiclngpmaaGreatDoor
open Tryz
open Go.RowKit
variable{L Lb:List Md}{l l':List wU}{ms:List (List UInt8×RM)}{m:Md}{j a sb g size n g0 cap b:Nat}{s:qb}{w w' wr:World}{S S':Nat->Prop}{f:Nat×Nat}{c:Array Value}{xs ys:List Value}{v lv iv fv kv v' av:Value}{ws:List qH}{t:List UInt8}{rm:RM}{E:Nm->Option Mod}
theorem mB{P:Program}(w:World){ops:Array Oper}{rest:List Oper}{o:Oper}{a:Act}{Q:Exit->Act->World->Prop}(hg:o.guard=none)(s x:Operand)(t:TypeId)(hop:o.op=Op.call {callee:=Callee.builtin Builtin.append,args:=#[s,x],argTypes:=#[t,t]})(base:Nat)(e:TypeId)(i:TypeInfo)(z:Value)(size bytes:Nat)(h1:P.underlying t=some (.slice e))(h2:P.info? e=some i)(h3:i.zero=some z)(h4:i.size=size)(h5:i.bytes=bytes)(h6:z.cells.size=size)(h7:0<size)(v:Value)(n:Nat)(xs:List Value)(hs:a.eval s=v)(hown:w.ownsRow base e size v n xs)(ad:Addr)(m c:Nat)(news:List Value)(hx:a.eval x=.slice (some ad) m c)(hn:news.length=m*size)(hc:∀j u,news[j]?=some u->w.cell? (ad.add j)=some u)(h1c:∀u∈news,u.oneCell'=true)(b1:n+m<=maxLen)(b2:(n+m)*bytes<=140737488355328)(hbase:base<=w.heap.size)(hK:∀o' c' w',w'.ownsRow base e size (.slice o' (n+m) c') (n+m) (xs++news)->w.grownBy w' v.ownBlock->(∀k,(Value.slice o' (n+m) c').ownBlock=some k->v.ownBlock=some k\/w.heap.size<=k)->wpList P ops Q rest (a.put o.dst (.slice o' (n+m) c')) w'):
  wpList P ops Q (o::rest) a w:=by
 refine wpList_plain hg λK hK'=> ?_
 obtain⟨v',w',hrun,r1,r2,r3⟩:=sY (P:=P) w base t o.type e i z size bytes h1 h2 h3 h4 h5 h6 h7 v n xs hown ad m c news hn hc h1c b1 b2 hbase;obtain⟨o',c',rfl⟩:=ak r1;unfold Oper.wp;simp [execOp,hop,resolve,invoke,builtin,hs,hx,hrun,Result.andThen];exact hK' _ _ (hK o' c' w' r1 r2 r3)
def oN(l:List wU)(L:List Md):Prop:=l.length=L.length/\∀j (h1:j<l.length) (h2:j<L.length),sV l[j] L[j]
theorem oN.nil:oN [] []:=⟨rfl,λj h=>absurd h (by simp)⟩
theorem oN.cons{x:wU}{m:Md}(h:sV x m)(hl:oN l L):oN (x::l) (m::L):=
 ⟨by simp [hl.1],λj h1 h2=>by
  cases j with
  |zero=>exact h
  |succ j=>exact hl.2 j (by simpa using h1) (by simpa using h2)⟩
theorem oN.Qh{x:wU}{m:Md}(h:oN (x::l) (m::L)):sV x m/\oN l L:=by
 obtain⟨a,b⟩:=h;refine⟨b 0 (by simp) (by simp),by simpa using a,λj h1 h2=> ?_⟩;have:=b (j+1) (by simpa using h1) (by simpa using h2);simpa using this
theorem oN.aZ(h:oN l L):l.map (λx=>x.ag)=Go.Proofs.YtpmmjkiclngpmaaGreatDoor.aZ L:=by
 apply List.ext_getElem
 ·simp [h.1]
 intro j h1 h2;simp only [List.length_map]at h1 h2;rw [List.getElem_map,List.getElem_map];exact(h.2 j h1 h2).ag
theorem oN.rd(h:oN l L)(hr:xy l ms):uk L ms:=by
 refine⟨hr.1.trans h.1,λj h1 h2=> ?_⟩
 have hj:j<l.length:=by rw [h.1];exact h1
 have a:=hr.2 j hj h2;have b:=h.2 j hj h1;rw [b.ag,b.now]at a;exact a
theorem oN.set(h:oN l L)(j:Nat){x:wU}(hx:sV x m):oN (l.set j x) (L.set j m):=by
 refine⟨by simp [h.1],λi h1 h2=> ?_⟩;rw [List.length_set]at h1 h2
 by_cases e:j=i
 ·subst e;rw [List.getElem_set_self,List.getElem_set_self];exact hx
 rw [List.getElem_set_ne e,List.getElem_set_ne e];exact h.2 i h1 h2
theorem xz(n:List UInt8)(l:List wU)(k:Nat):(ju n l k= -1/\n∉l.map λx=>x.ag)\/∃j,∃h:j<l.length,ju n l k=((k+j:Nat):Int)/\l[j].ag=n:=by
 induction l generalizing k with
 |nil=>exact Or.inl ⟨rfl,by simp⟩
 |cons x r ih=>
  unfold ju
  rcases hc:(x.ag==n)with _|_
  ·rw [if_neg (by simp)]
   have hne:n≠x.ag:=λe=>by rw [e]at hc;simp at hc
   rcases ih (k+1)with⟨a,b⟩|⟨j,h,a,b⟩
   ·exact Or.inl ⟨a,by rw [List.map_cons,List.mem_cons];exact λe=>e.elim hne b⟩
   ·exact Or.inr ⟨j+1,by simpa using h,by rw [a];congr 1;omega,by simpa using b⟩
  ·rw [if_pos rfl]
   exact Or.inr ⟨0,by simp,by simp,by simpa using hc⟩
theorem Th(hr:bY (aZ L)){n:Nm}(hj:j<L.length)(hn:L[j].ag=n)(t:List UInt8):jV n t L=L.set j {L[j]with now:=t}:=by
 have kV:n∈aZ L:=by rw [<-hn];exact List.mem_map.2 ⟨_,List.getElem_mem hj,rfl⟩
 unfold jV;rw [if_pos kV]
 apply List.ext_getElem
 ·simp
 intro i h1 h2;rw [List.getElem_map]
 have hi:i<L.length:=by simpa using h1
 by_cases e:j=i
 ·subst e;rw [List.getElem_set_self,if_pos hn]
 rw [List.getElem_set_ne e,if_neg λe'=> ?_]
 have key:∀a b (ha:a<L.length) (hb:b<L.length),a<b->L[a].ag≠L[b].ag:=λa b ha hb hab=>by
  have:=List.pairwise_iff_getElem.1 hr.ne a b (by simpa using ha) (by simpa using hb) hab;simpa using this
 rcases Nat.lt_or_gt_of_ne e with q|q
 ·exact key j i hj hi q (hn.trans e'.symm)
 exact key i j hi hj q (e'.trans hn.symm)
theorem Ti{x:Md}(ha:a<=L.length)(h1:∀i (h:i<a),bytesBefore (L[i]'(by omega)).ag x.ag=true)(h2:∀h:a<L.length,bytesBefore x.ag L[a].ag=true):xI x L=L.take a++x::L.drop a:=by
 induction L generalizing a with
 |nil=>
  have:a=0:=by simpa using ha
  subst this;rfl
 |cons y r ih=>
  unfold xI
  cases a with
  |zero=>rw [if_pos (show bytesBefore x.ag y.ag=true from h2 (by simp))];rfl
  |succ a=>
   have h0:=h1 0 (by omega)
   rw [if_neg (λe=>by
    have:=WideShapes.bytes_trans _ _ _ e h0
    rw [WideAt.bytes_irrefl]at this;cases this)]
   rw [ih (a:=a) (by simpa using ha) (λi h=>by have:=h1 (i+1) (by omega);simpa using this) (λh=>by have:=h2 (by simpa using h);simpa using this)]
   rfl
theorem Tj(hr:bY (aZ L)){n:Nm}(hj:j<L.length)(hn:L[j].ag=n):oy n L=L.take j++L.drop (j+1):=by
 have hne:∀a b (ha:a<L.length) (hb:b<L.length),a<b->L[a].ag≠L[b].ag:=λa b ha hb hab=>by
  have:=List.pairwise_iff_getElem.1 hr.ne a b (by simpa using ha) (by simpa using hb) hab;simpa using this
 unfold oy
 have e:L=L.take j++L[j]::L.drop (j+1):=by rw [<-List.drop_eq_getElem_cons hj,List.take_append_drop]
 conv=>lhs;rw [e]
 rw [List.filter_append,List.filter_cons_of_neg (by simp [hn])]
 congr 1
 ·rw [List.filter_eq_self]
  intro m hm;obtain⟨i,hi,rfl⟩:=List.mem_take_iff_getElem.1 hm
  have:L[i].ag≠n:=by rw [<-hn];exact hne i j (by omega) hj (by omega)
  simp [this]
 rw [List.filter_eq_self];intro m hm;obtain⟨i,hi,rfl⟩:=List.mem_drop_iff_getElem.1 hm
 have:(L[j+1+i]'(by omega)).ag≠n:=by rw [<-hn];exact(hne j (j+1+i) hj (by omega) (by omega)).symm
 simp only [Bool.not_eq_true',beq_eq_false_iff_ne,ne_eq];exact this
theorem oN.take(h:oN l L)(a:Nat):oN (l.take a) (L.take a):=
 ⟨by simp [h.1],λj h1 h2=>by rw [List.getElem_take,List.getElem_take];exact h.2 j (by simp at h1;omega) (by simp at h2;omega)⟩
theorem oN.drop(h:oN l L)(a:Nat):oN (l.drop a) (L.drop a):=
 ⟨by simp [h.1],λj h1 h2=>by rw [List.getElem_drop,List.getElem_drop];exact h.2 _ (by simp at h1;omega) (by simp at h2;omega)⟩
theorem oN.append{L':List Md}(h:oN l L)(h':oN l' L'):oN (l++l') (L++L'):=by
 induction l generalizing L with
 |nil=>
  have:L= []:=List.eq_nil_of_length_eq_zero h.1.symm;subst this;exact h'
 |cons x r ih=>
  cases L with
  |nil=>exact absurd h.1 (by simp)
  |cons m q=>exact oN.cons h.Qh.1 (ih h.Qh.2)
structure uu (S:Nat->Prop) (w:World) (sb:Nat) (s:qb) (Lb:List Md):Prop where
 own:S sb
 mem:∃(l:List wU) (ms:List (List UInt8×RM)) (lv kv iv:Value),w.heap[sb]?=some (.cells #[lv,kv,iv,.bool s.vX.isSome] 121 (0,0))/\eW S w lv l/\oN l s.L/\cW S w 9 1 kv s.comp.length (jA s.comp)/\eL S w iv ms/\uk Lb ms
theorem uu.keep(h:uu S w sb s Lb)(hk:∀k,S k->k<w.heap.size->S' k/\w'.heap[k]?=w.heap[k]?):uu S' w' sb s Lb:=by
 obtain⟨hs,l,ms,lv,kv,iv,a,b,c,d,e,f⟩:=h;have:=hk sb hs (af a);exact⟨this.1,l,ms,lv,kv,iv,this.2.trans a,b.keep hk,c,d.keep hk,e.keep hk,f⟩
theorem cW.set{t t':TypeId}(h:cW S w t size v n xs)(hg:w.heap[g]?=some (.cells c t' f))(ht:t≠t')(o:Nat)(u:Value):cW S (w.setCell ⟨g,o,none⟩ u) t size v n xs:=
 ⟨a8 h.1 (λe=>by
  rcases h.1.2 with⟨rfl,_⟩|⟨g0,cap,aU,rfl,_,hc,_⟩
  ·simp [Value.ownBlock]at e
  ·simp [Value.ownBlock]at e
   subst e;rw [hg]at hc
   injection hc with hc
   injection hc with _ e _
   exact ht e.symm) o u,h.2⟩
theorem mI{t:TypeId}(h:w.heap[g]?=some (.cells c t f))(o:Nat)(u:Value):∃c',(w.setCell ⟨g,o,none⟩ u).heap[g]?=some (.cells c' t f):=⟨_,ax h o u⟩
theorem lT.set(h:lT g0 ws w)(hg:g≠g0)(o:Nat)(u:Value):lT g0 ws (w.setCell ⟨g,o,none⟩ u):=h.keep (Below.heap_setCell _ _ _ _ (λe=>hg e.symm))
def Xu(t:TypeId):Prop:=t≠260/\t≠262/\t≠5/\t≠361/\t≠251
theorem lT.type(h:lT g0 ws w):∃c f,w.heap[g0]?=some (.cells c 361 f):=by
 obtain⟨aU,hc,_⟩:=h.row;exact⟨_,_,hc⟩
theorem jr.set{m:RM}(h:jr S w lv iv fv m){t:TypeId}(hg:w.heap[g]?=some (.cells c t f))(ht:Xu t)(o:Nat)(u:Value):jr S (w.setCell ⟨g,o,none⟩ u) lv iv fv m:=by
 refine⟨h.sh,λhb=> ?_⟩;obtain⟨⟨g0,cap,a,b,d⟩,hi,xs,hf,hx⟩:=h.ok hb;refine⟨⟨g0,cap,a,b,d.set (λe=> ?_) o u⟩,hi.set hg ht.1.symm o u,xs,hf.set hg ht.2.1.symm o u,λj hj=> ?_⟩
 ·subst e
  obtain⟨c',f',q⟩:=d.type;rw [hg]at q
  injection q with q
  injection q with _ e _
  exact ht.2.2.2.1 e
 obtain⟨pv,kv,p,q,r⟩:=hx j hj;exact⟨pv,kv,p,q.set hg ht.1.symm o u,r.set hg ht.2.2.1.symm o u⟩
theorem eL.set{l:List (List UInt8×RM)}(h:eL S w v l){t:TypeId}(hg:w.heap[g]?=some (.cells c t f))(ht:Xu t)(o:Nat)(u:Value):eL S (w.setCell ⟨g,o,none⟩ u) v l:=by
 obtain⟨xs,a,b⟩:=h;exact⟨xs,a.set hg ht.2.2.2.2.symm o u,λj hj=>by obtain⟨lv,iv,fv,p,q⟩:=b j hj;exact⟨lv,iv,fv,p,q.set hg ht o u⟩⟩
theorem eW.one(h:eW S w (.slice (some ⟨g,0,none⟩) l.length cap) l)(j:Nat)(hj:j<l.length)(o:Nat)(u:Value)(x:wU)(hc:∀uv i,i<5->(vE x uv)[i]?=if i=o then some u else(vE l[j] uv)[i]?)(hh:x.has=true->l[j].has=true/\x.aeg=l[j].aeg)(ho:o<5):eW S (w.setCell ⟨g,j*5+o,none⟩ u) (.slice (some ⟨g,0,none⟩) l.length cap) (l.set j x):=by
 obtain⟨xs,a,b⟩:=h
 have VF:xs.length=l.length*5:=by have:=a.1.1;simpa using this
 obtain⟨c,f,hg⟩:∃c f,w.heap[g]?=some (.cells c 169 f):=by
  rcases a.1.2 with⟨e,_⟩|⟨g0,lH,aU,e,_,hcb,_⟩
  ·simp at e
  ·simp only [Value.slice.injEq,Option.some.injEq,Addr.mk.injEq]at e
   obtain⟨⟨rfl,_⟩,_,rfl⟩:=e;exact⟨_,_,hcb⟩
 refine⟨xs.set (j*5+o) u,⟨by rw [List.length_set];exact jQ a.1 (j*5+o) u,a.2⟩,λi hi=> ?_⟩;rw [List.length_set]at hi;obtain⟨uv,p,q,r⟩:=b i hi
 by_cases e:j=i
 ·subst e
  refine⟨uv,λk hk=> ?_,q,λhx=> ?_⟩
  ·rw [List.getElem_set_self,hc uv k hk,List.getElem?_set]
   by_cases e:k=o
   ·subst e;rw [if_pos rfl,if_pos rfl,if_pos (by omega)]
   ·rw [if_neg (by omega),if_neg e];exact p k hk
  ·rw [List.getElem_set_self]at hx⊢
   obtain⟨h1,h2⟩:=hh hx;rw [h2];exact(r h1).set hg (by decide) _ u
 refine⟨uv,λk hk=> ?_,q,λhx=> ?_⟩
 ·rw [List.getElem_set_ne e,List.getElem?_set,if_neg (by omega)];exact p k hk
 rw [List.getElem_set_ne e]at hx⊢;exact(r hx).set hg (by decide) _ u
theorem eW.obj(h:eW S w (.slice (some ⟨g,0,none⟩) l.length cap) l)(j:Nat)(hj:j<l.length)(t:List UInt8)(uo:Option Addr)(un uc:Nat)(us:List Us)(hu:cW S w 185 3 (.slice uo un uc) us.length (bo us)):
  eW S (((w.setCell ⟨g,j*5+2,none⟩ (.bool true)).setCell ⟨g,j*5+3,none⟩ (.string ⟨t.toArray⟩)).setCell ⟨g,j*5+4,none⟩ (.slice uo un uc)) (.slice (some ⟨g,0,none⟩) l.length cap) (l.set j {l[j]with has:=true,old:=t,aeg:=us}):=by
 obtain⟨xs,a,b⟩:=h
 have VF:xs.length=l.length*5:=by have:=a.1.1;simpa using this
 obtain⟨c,f,hg⟩:∃c f,w.heap[g]?=some (.cells c 169 f):=by
  rcases a.1.2 with⟨e,_⟩|⟨g0,lH,aU,e,_,hcb,_⟩
  ·simp at e
  ·simp only [Value.slice.injEq,Option.some.injEq,Addr.mk.injEq]at e
   obtain⟨⟨rfl,_⟩,_,rfl⟩:=e;exact⟨_,_,hcb⟩
 obtain⟨c2,hg2⟩:=mI hg (j*5+2) (.bool true);obtain⟨c3,hg3⟩:=mI hg2 (j*5+3) (.string ⟨t.toArray⟩)
 have k3:∀{n:Nat} {v:Value} {ys:List Value},cW S w 185 3 v n ys->cW S (((w.setCell ⟨g,j*5+2,none⟩ (.bool true)).setCell ⟨g,j*5+3,none⟩ (.string ⟨t.toArray⟩)).setCell ⟨g,j*5+4,none⟩ (.slice uo un uc)) 185 3 v n ys:=λh=>((h.set hg (by decide) _ _).set hg2 (by decide) _ _).set hg3 (by decide) _ _
 refine⟨((xs.set (j*5+2) (.bool true)).set (j*5+3) (.string ⟨t.toArray⟩)).set (j*5+4) (.slice uo un uc),⟨by rw [List.length_set];exact jQ (jQ (jQ a.1 _ _) _ _) _ _,a.2⟩,λi hi=> ?_⟩;rw [List.length_set]at hi;obtain⟨uv,p,q,r⟩:=b i hi
 by_cases e:j=i
 ·subst e
  refine⟨.slice uo un uc,λk hk=> ?_,⟨_,_,_,rfl⟩,λhx=> ?_⟩
  ·rw [List.getElem_set_self]
   have hp:=p k hk
   have YL:k=0\/k=1\/k=2\/k=3\/k=4:=by omega
   rcases YL with rfl|rfl|rfl|rfl|rfl
   ·rw [List.getElem?_set_ne (by omega),List.getElem?_set_ne (by omega),List.getElem?_set_ne (by omega),hp];rfl
   ·rw [List.getElem?_set_ne (by omega),List.getElem?_set_ne (by omega),List.getElem?_set_ne (by omega),hp];rfl
   ·rw [List.getElem?_set_ne (by omega),List.getElem?_set_ne (by omega),List.getElem?_set_self (by omega)];rfl
   ·rw [List.getElem?_set_ne (by omega),List.getElem?_set_self (by simp;omega)];rfl
   ·rw [List.getElem?_set_self (by simp;omega)];rfl
  ·rw [List.getElem_set_self]
   exact k3 hu
 refine⟨uv,λk hk=> ?_,q,λhx=> ?_⟩
 ·rw [List.getElem_set_ne e,List.getElem?_set_ne (by omega),List.getElem?_set_ne (by omega),List.getElem?_set_ne (by omega)];exact p k hk
 rw [List.getElem_set_ne e]at hx⊢;exact k3 (r hx)
theorem sB:(prog.info? 169).map (λi=>(i.zero,i.size,i.bytes))=some (some (.agg #[.string ⟨#[]⟩,.string ⟨#[]⟩,.bool false,.string ⟨#[]⟩,.slice none 0 0]),5,80):=by kernel_rfl
theorem uu.cells(h:uu S w sb s Lb):∃(l:List wU) (lo:Option Addr) (lc:Nat) (kv iv:Value),w.heap[sb]?=some (.cells #[.slice lo l.length lc,kv,iv,.bool s.vX.isSome] 121 (0,0))/\eW S w (.slice lo l.length lc) l/\oN l s.L/\∃ms,cW S w 9 1 kv s.comp.length (jA s.comp)/\eL S w iv ms/\uk Lb ms:=by
 obtain⟨hs,l,ms,lv,kv,iv,a,b,c,d,e,f⟩:=h
 rcases b.cells with⟨rfl,rfl⟩|⟨g,cap,rfl,_⟩
 ·exact⟨[],none,0,kv,iv,a,b,c,ms,d,e,f⟩
 exact⟨l,some ⟨g,0,none⟩,cap,kv,iv,a,b,c,ms,d,e,f⟩
theorem Tk{n:List UInt8}(h:cw n=false):nP s n t=(1,s):=by unfold nP;rw [if_pos h]
theorem FX{n:List UInt8}(h:cw n=true)(h2:600<t.length\/(n∉aZ s.L/\8<=s.L.length)):nP s n t=(2,s):=by unfold nP;rw [if_neg (by rw [h];simp),if_pos h2]
theorem JU{s:qb}{n:List UInt8}(h:cw n=true)(h2:¬(600<t.length\/(n∉aZ s.L/\8<=s.L.length))):nP s n t=(0,{s with L:=jV n t s.L}):=by unfold nP;rw [if_neg (by rw [h];simp),if_neg h2]
def Cf(S:Nat->Prop)(w:World)(sb:Nat)(r:Nat×qb)(Lb:List Md)(e:Ending)(w':World):Prop:=e=.returned (.int .i64 (r.1:Nat))/\bG S w w'/\uu (λk=>S k\/w.heap.size<=k) w' sb r.2 Lb
theorem Cf.same(h:uu S w sb s Lb)(c:Nat):Cf S w sb (c,s) Lb (.returned (.int .i64 (c:Nat))) w:=⟨rfl,bG.refl _ _,h.keep λk hk _=>⟨Or.inl hk,rfl⟩⟩
theorem uu.put{lc:Nat}(hs:S sb)(hb:w.heap[sb]?=some (.cells #[.slice (some ⟨g,0,none⟩) l.length lc,kv,iv,.bool s.vX.isSome] 121 (0,0)))(hT:eW S w (.slice (some ⟨g,0,none⟩) l.length lc) l)(hL:oN l s.L)(hK:cW S w 9 1 kv s.comp.length (jA s.comp))(hA:eL S w iv ms)(hR:uk Lb ms)(hr:bY (aZ s.L))(j:Nat)(hj:j<l.length)(n t:List UInt8)(hn:l[j].ag=n):
  bG S w (w.setCell ⟨g,j*5+1,none⟩ (.string ⟨t.toArray⟩))/\uu (λk=>S k\/w.heap.size<=k) (w.setCell ⟨g,j*5+1,none⟩ (.string ⟨t.toArray⟩)) sb {s with L:=jV n t s.L} Lb:=by
 have U2:j<s.L.length:=by rw [<-hL.1];exact hj
 have has:=hL.2 j hj U2
 obtain⟨c,f,hg⟩:∃c f,w.heap[g]?=some (.cells c 169 f):=by
  obtain⟨xs,a,_⟩:=hT
  rcases a.1.2 with⟨e,_⟩|⟨g0,lH,aU,e,_,hcb,_⟩
  ·simp at e
  ·simp only [Value.slice.injEq,Option.some.injEq,Addr.mk.injEq]at e
   obtain⟨⟨rfl,_⟩,_,rfl⟩:=e;exact⟨_,_,hcb⟩
 have qU:S g:=by obtain⟨xs,a,_⟩:=hT;exact a.2 g rfl
 have hne:sb≠g:=λe=>by
  rw [e,hg]at hb
  injection hb with hb
  injection hb with _ e _
  exact absurd e (by decide)
 have h1:=hT.one j hj 1 (.string ⟨t.toArray⟩) {l[j]with now:=t} (λuv i hi=>by
  have:i=0\/i=1\/i=2\/i=3\/i=4:=by omega
  rcases this with rfl|rfl|rfl|rfl|rfl<;>rfl) (λh=>⟨h,rfl⟩) (by omega)
 refine⟨(bG.refl S w).set (Or.inl qU) _ _,?_⟩
 have h2:uu S (w.setCell ⟨g,j*5+1,none⟩ (.string ⟨t.toArray⟩)) sb {s with L:=jV n t s.L} Lb:=by
  refine⟨hs,l.set j {l[j]with now:=t},ms,_,kv,iv,(Below.heap_setCell _ _ _ _ hne).trans hb,h1,?_,hK.set hg (by decide) _ _,hA.set hg ⟨by decide,by decide,by decide,by decide,by decide⟩ _ _,hR⟩;show oN (l.set j {l[j]with now:=t}) (jV n t s.L);rw [Th hr U2 (has.ag.symm.trans hn) t];exact hL.set j ⟨has.ag,rfl,has.has,has.obj⟩
 exact h2.keep λk hk _=>⟨Or.inl hk,rfl⟩
def pH(S:Nat->Prop)(w:World)(xs:List Value)(l:List wU):Prop:=xs.length=l.length*5/\
 ∀j (h:j<l.length),∃uv,(∀o,o<5->xs[j*5+o]?=(vE l[j] uv)[o]?)/\(∃a b c,uv=.slice a b c)/\(l[j].has=true->cW S w 185 3 uv l[j].aeg.length (bo l[j].aeg))
theorem eW.cellsIn(h:eW S w v l):∃xs,cW S w 169 5 v l.length xs/\pH S w xs l:=by
 obtain⟨xs,a,b⟩:=h;exact⟨xs,a,by have:=a.1.1;simpa using this,b⟩
theorem pH.keep(h:pH S w xs l)(hk:∀k,S k->k<w.heap.size->S' k/\w'.heap[k]?=w.heap[k]?):pH S' w' xs l:=
 ⟨h.1,λj hj=>by obtain⟨uv,a,b,c⟩:=h.2 j hj;exact⟨uv,a,b,λhx=>(c hx).keep hk⟩⟩
theorem pH.take(h:pH S w xs l)(a:Nat):pH S w (xs.take (a*5)) (l.take a):=by
 refine⟨by have:=h.1;simp only [List.length_take,List.length_drop];omega,λj hj=> ?_⟩
 have xW:j<l.length/\j<a:=by simp at hj;omega
 obtain⟨uv,p,q,r⟩:=h.2 j xW.1;rw [List.getElem_take];exact⟨uv,λo ho=>by rw [List.getElem?_take_of_lt (by omega)];exact p o ho,q,r⟩
theorem pH.drop(h:pH S w xs l)(a:Nat):pH S w (xs.drop (a*5)) (l.drop a):=by
 refine⟨by have:=h.1;simp only [List.length_take,List.length_drop];omega,λj hj=> ?_⟩
 have xW:a+j<l.length:=by simp at hj;omega
 obtain⟨uv,p,q,r⟩:=h.2 (a+j) xW;rw [List.getElem_drop];exact⟨uv,λo ho=>by rw [List.getElem?_drop,show a*5+(j*5+o)=(a+j)*5+o by omega];exact p o ho,q,r⟩
theorem pH.append(h:pH S w xs l)(h':pH S w ys l'):pH S w (xs++ys) (l++l'):=by
 refine⟨by have:=h.1;have:=h'.1;simp only [List.length_append];omega,λj hj=> ?_⟩;have hl:=h.1
 by_cases hlt:j<l.length
 ·obtain⟨uv,p,q,r⟩:=h.2 j hlt
  rw [List.getElem_append_left hlt];exact⟨uv,λo ho=>by rw [List.getElem?_append_left (by omega)];exact p o ho,q,r⟩
 have xW:j-l.length<l'.length:=by simp at hj;omega
 obtain⟨uv,p,q,r⟩:=h'.2 (j-l.length) xW;rw [List.getElem_append_right (by omega)];exact⟨uv,λo ho=>by rw [List.getElem?_append_right (by omega),show j*5+o-xs.length=(j-l.length)*5+o by omega];exact p o ho,q,r⟩
theorem pH.single(n t:List UInt8):pH S w [.string ⟨n.toArray⟩,.string ⟨t.toArray⟩,.bool false,.string ⟨#[]⟩,.slice none 0 0] [⟨n,t,false,[],[]⟩]:=
 ⟨rfl,λj hj=>by
  have:j=0:=by simpa using hj
  subst this
  exact⟨.slice none 0 0,λo ho=>by rw [Nat.zero_mul,Nat.zero_add];rfl,⟨_,_,_,rfl⟩,λh=>by cases h⟩⟩
theorem pH.yr(h:pH S w xs l):∀u∈xs,u.oneCell'=true:=by
 intro u hu;obtain⟨i,hi,rfl⟩:=List.getElem_of_mem hu;have hl:=h.1;obtain⟨uv,p,⟨a,b,c,rfl⟩,_⟩:=h.2 (i/5) (by omega);have:=p (i%5) (by omega);rw [show i/5*5+i%5=i by omega,List.getElem?_eq_getElem hi]at this
 have h5:i%5=0\/i%5=1\/i%5=2\/i%5=3\/i%5=4:=by omega
 rcases h5 with e|e|e|e|e<;>rw [e]at this<;>(injection this with this;rw [this];rfl)
theorem nD{t:TypeId}(h:cW S w t size (.slice (some ⟨g,0,none⟩) n cap) n xs)(a:Nat):∀j u,(xs.drop a)[j]?=some u->w.cell? ((⟨g,a,none⟩:Addr).add j)=some u:=by
 intro j u hj;rw [List.getElem?_drop]at hj
 rcases bZ h.1 with⟨e,_⟩|⟨g0,lH,e,hb,hlt,gO,hc,he⟩
 ·simp at e
 simp only [Value.slice.injEq,Option.some.injEq,Addr.mk.injEq]at e;obtain⟨⟨rfl,_⟩,_,rfl⟩:=e
 have wj:a+j<xs.length:=by rcases List.getElem?_eq_some_iff.1 hj with⟨h,_⟩;exact h
 have hx:=h.1.1;rw [Addr.add_lit];exact(hc _ (by omega)).trans hj
theorem x8{t:TypeId}(h:cW S w t size (.slice (some ⟨g,0,none⟩) n cap) n xs)(a:Nat):∀j u,(xs.take a)[j]?=some u->w.cell? ((⟨g,0,none⟩:Addr).add j)=some u:=by
 intro j u hj;refine nD h 0 j u ?_;rw [List.drop_zero];rw [List.getElem?_take]at hj
 split at hj
 ·exact hj
 cases hj
theorem Ad{base:Nat}{t:TypeId}(h:w.ownsRow base t size (.slice (some ⟨g,0,none⟩) n cap) n xs):n<=cap:=by
 rcases h.2 with⟨e,_⟩|⟨g0,lH,aU,e,_,_,vJ,_⟩
 ·simp at e
 simp only [Value.slice.injEq,Option.some.injEq,Addr.mk.injEq]at e;obtain⟨_,_,rfl⟩:=e;exact vJ
theorem Qi(w:World)(a0 a1 a2 a3 a4:Value)(t:TypeId):∀j u,[a0,a1,a2,a3,a4][j]?=some u->(w.alloc (.cells #[a0,a1,a2,a3,a4] t)).cell? ((⟨w.heap.size,0,none⟩:Addr).add j)=some u:=by
 intro j u hj
 match j,hj with
 |0,hj=>simp at hj;subst hj;simp [Addr.add]
 |1,hj=>simp at hj;subst hj;simp [Addr.add]
 |2,hj=>simp at hj;subst hj;simp [Addr.add]
 |3,hj=>simp at hj;subst hj;simp [Addr.add]
 |4,hj=>simp at hj;subst hj;simp [Addr.add]
theorem aa5{a0 a1 a2 a3 a4:Value}(h0:a0.oneCell'=true)(h1:a1.oneCell'=true)(h2:a2.oneCell'=true)(h3:a3.oneCell'=true)(h4:a4.oneCell'=true):∀u∈ [a0,a1,a2,a3,a4],u.oneCell'=true:=by
 intro u hu;simp only [List.mem_cons,List.not_mem_nil,or_false]at hu
 rcases hu with rfl|rfl|rfl|rfl|rfl<;>assumption
theorem xA(h:∀j u,ys[j]?=some u->w.cell? ((⟨g,a,none⟩:Addr).add j)=some u)(hb:Below b w w')(hg:g<b):∀j u,ys[j]?=some u->w'.cell? ((⟨g,a,none⟩:Addr).add j)=some u:=λj u hj=>by
 have:=h j u hj;rw [Addr.add_lit]at this⊢;exact(hb.cell hg).trans this
theorem uu.newRow{s':qb}{o:Option Addr}{c:Nat}(hs:S sb)(hb:w.heap[sb]?=some (.cells #[lv,kv,iv,.bool s.vX.isSome] 121 (0,0)))(hK:cW S w 9 1 kv s.comp.length (jA s.comp))(hA:eL S w iv ms)(hR:uk Lb ms)(Xv:Below w.heap.size w w')(hown:w'.ownsRow w.heap.size 169 5 (.slice o l'.length c) l'.length xs)(kV:pH S w xs l')(hL:oN l' s'.L)(h1:s'.comp=s.comp)(h2:s'.vX=s.vX):
  bG S w (w'.setCell ⟨sb,0,none⟩ (.slice o l'.length c))/\uu (λk=>S k\/w.heap.size<=k) (w'.setCell ⟨sb,0,none⟩ (.slice o l'.length c)) sb s' Lb:=by
 have hb':=(Xv.block _ (af hb)).trans hb
 have hk:∀k,S k->k<w.heap.size->(S k\/w.heap.size<=k)/\w'.heap[k]?=w.heap[k]?:=λk h hlt=>⟨Or.inl h,Xv.block k hlt⟩
 refine⟨((bG.refl S w).trans (bG.aW Xv)).set (Or.inl hs) _ _,Or.inl hs,l',ms,_,kv,iv,by rw [h2];exact ax hb' 0 _,?_,hL,?_,?_,hR⟩
 ·obtain⟨q1,q2⟩:=kV.keep hk
  refine⟨xs,?_,λj hj=> ?_⟩
  ·exact cW.set ⟨cI hown (Nat.zero_le _),λg e=>Or.inr (aQ hown g e).1⟩ hb' (by decide) _ _
  ·obtain⟨uv,p,q,r⟩:=q2 j hj
   exact⟨uv,p,q,λhx=>(r hx).set hb' (by decide) _ _⟩
 ·rw [h1];exact(hK.keep hk).set hb' (by decide) _ _
 exact(hA.keep hk).set hb' ⟨by decide,by decide,by decide,by decide,by decide⟩ _ _
theorem Qj(h:uu S w sb s Lb)(hr:bY (aZ s.L))(hf:s.L.length<=8)(n t:List UInt8)(hn:n.length<=140737488355328)(ht:t.length<=140737488355328):
  Calls prog 51 #[.pointer (some ⟨sb,0,none⟩),.string ⟨n.toArray⟩,.string ⟨t.toArray⟩] w (Cf S w sb (nP s n t) Lb):=by
 obtain⟨l,lo,lc,kv,iv,hb,hT,hL,ms,hK,hA,hR⟩:=h.cells;have lK:=hL.aZ
 have rU:l.length<=8:=by rw [hL.1];exact hf
 have c0:=ae hb 0;have cl:=af hb;have cf:=aj hb;simp at c0;have oh:=aa (λc=>Cf.same h c);have AG:=aa (pC ⟨n.toArray⟩ w (by show n.toArray.size<=_;simpa using hn));have pq:=aa (Ca l S w sb _ kv iv _ hb hT n);have e0:(⟨n.toArray⟩:ByteArray).data.toList=n:=rfl;rw [e0]at AG;clear e0
 rcases wG:cw n with _|_
 ·have eJ:=aa (Tk (s:=s) (t:=t) wG)
  rw [wG]at AG;clear wG h hb hT hL hK hA hR hr lK
  go_enter func51,ntmps51
  go_wp2_with fail
  refine AG.o.mono ?_;rintro e w1 ⟨rfl,rfl⟩
  go_wp2_with fail
  refine pq.o.mono ?_;rintro e w1 ⟨rfl,rfl⟩;go_wp2;go_ret;rw [eJ.o];exact oh.o 1
 rw [wG]at AG
 by_cases ht6:600<t.length
 ·have eJ:=aa (FX (s:=s) (t:=t) wG (Or.inl ht6))
  have ac5:(600:Int)<(t.length:Int):=by omega
  clear wG h hb hT hL hK hA hR hr lK
  go_enter func51,ntmps51
  go_wp2_with fail
  refine AG.o.mono ?_;rintro e w1 ⟨rfl,rfl⟩
  go_wp2_with fail
  refine pq.o.mono ?_;rintro e w1 ⟨rfl,rfl⟩;go_wp2;go_ret;rw [eJ.o];exact oh.o 2
 have ac5:¬(600:Int)<(t.length:Int):=by omega
 rcases xz n l 0 with⟨e1,e2⟩|⟨j,hj,e1,e2⟩
 ·rw [lK]at e2
  by_cases h8:8<=l.length
  ·have eJ:=aa (FX (s:=s) (t:=t) wG (Or.inr ⟨e2,by rw [<-hL.1];exact h8⟩))
   have YM:(8:Int)<=(l.length:Int):=by omega
   rw [e1]at pq;clear wG h hb hT hL hK hA hR hr lK e1 e2 h8
   go_enter func51,ntmps51
   go_wp2_with fail
   refine AG.o.mono ?_;rintro e w1 ⟨rfl,rfl⟩
   go_wp2_with fail
   refine pq.o.mono ?_;rintro e w1 ⟨rfl,rfl⟩;go_wp2;go_ret;rw [eJ.o];exact oh.o 2
  ·have eJ:=aa (JU (s:=s) (t:=t) wG (λh=>h.elim ht6 λh=>h8 (by rw [hL.1];exact h.2)))
   have YM:¬(8:Int)<=(l.length:Int):=by omega
   have hl8:l.length<8:=by omega
   obtain⟨xs,hrow,kV⟩:=hT.cellsIn
   have uq:=aa (λ(a:Nat) (ha:a<=l.length) (h1:∀i (hi:i<a),bytesBefore (l[i]'(by omega)).ag n=true) (h2:∀hi:a<l.length,bytesBefore (l[a]).ag n=false) (w':World) (o:Option Addr) (c m:Nat) (hm:m=l.length+1) (Xv:Below w.heap.size w w') (hown:w'.ownsRow w.heap.size 169 5 (.slice o m c) m ((xs.take (a*5)++ [.string ⟨n.toArray⟩,.string ⟨t.toArray⟩,.bool false,.string ⟨#[]⟩,.slice none 0 0])++xs.drop (a*5)))=>(show bG S w (w'.setCell ⟨sb,0,none⟩ (.slice o m c))/\uu (λk=>S k\/w.heap.size<=k) (w'.setCell ⟨sb,0,none⟩ (.slice o m c)) sb {s with L:=jV n t s.L} Lb by
    have hlen:((l.take a++ [(⟨n,t,false,[],[]⟩:wU)])++l.drop a).length=m:=by simp;omega
    subst hlen;refine uu.newRow h.own hb hK hA hR Xv hown (((kV.take a).append (pH.single n t)).append (kV.drop a)) ?_ rfl rfl;show oN _ (jV n t s.L)
    have hLa:a<=s.L.length:=by rw [<-hL.1];exact ha
    have e:jV n t s.L=(s.L.take a++ [(⟨n,t,none⟩:Md)])++s.L.drop a:=by
     unfold jV;rw [if_neg e2,Ti hLa (λi hi=>by rw [<-(hL.2 i (by omega) (by omega)).ag];exact h1 i hi) (λhi=> ?_)]
     ·simp
     ·have hla:a<l.length:=by rw [hL.1];exact hi
      have XX:=(hL.2 a hla hi).ag
      have hne:s.L[a].ag≠n:=λe=>e2 (List.mem_map.2 ⟨_,List.getElem_mem hi,e⟩)
      have EL:=h2 hla;rw [XX]at EL
      rcases WideAt.bytes_total _ _ hne with q|q
      ·rw [q]at EL;cases EL
      ·exact q
    rw [e]
    exact((hL.take a).append (oN.cons ⟨rfl,rfl,rfl,λo h=>by cases h⟩ oN.nil)).append (hL.drop a)))
   have HF:=aa hT.cells;have xQ:=aa hrow;have kp:=aa kV.yr;have VF:=kV.1;rw [e1]at pq;clear wG h hb hT hL hK hA hR hr lK e1 e2 h8 hrow kV oh
   go_enter func51,ntmps51
   go_wp2_with fail
   refine AG.o.mono ?_;rintro e w1 ⟨rfl,hw⟩;obtain rfl:=hw.symm
   go_wp2_with fail
   refine pq.o.mono ?_;rintro e w1 ⟨rfl,hw⟩;obtain rfl:=hw.symm
   go_upto_block 0 with fail
   go_cut [9]from 43 to 63 (λv9 wx=>∃a:Nat,a<=l.length/\v9=.int .i64 a/\wx=w/\Hy (∀i (h2:i<l.length),i<a->bytesBefore l[i].ag n=true)/\Hy (∀h2:a<l.length,bytesBefore l[a].ag n=false))
   case first=>
    go_wp2_with fail
    go_loopg [9] l.length (λnn v9 wr=>∃a:Nat,nn+a=l.length/\v9=.int .i64 a/\wr=w/\Hy (∀i (h2:i<l.length),i<a->bytesBefore l[i].ag n=true))
    case atStart=>exact⟨0,by omega,rfl,rfl,aa (λi _ hi=>absurd hi (by omega))⟩
    case round=>
     obtain⟨a,hna,rfl,hw,LU⟩:=hrel;obtain rfl:=hw.symm
     by_cases hlt:a<l.length
     ·rcases HF.o with⟨hv,hnil⟩|⟨g,cap,hv,eP,gO,qU,hcs⟩
      ·rw [hnil]at hlt;simp at hlt
      ·injection hv with v1 v2 v3
       subst v1 v3;obtain⟨uv,d0,_⟩:=hcs a hlt
       have eu:(a:Int)<(l.length:Int):=by omega
       have hma:(a:Int)+1<=9223372036854775807:=by omega
       have lF:=aa (fS l[a].ag n)
       have oD:=aa (λhb:bytesBefore l[a].ag n=true=>(show ∀i (h2:i<l.length),i<a+1->bytesBefore l[i].ag n=true from λi h2 hi=>by
        by_cases e:i=a
        ·subst e;exact hb
        ·exact LU.o i h2 (by omega)))
       have HEd:=aa (λhb:bytesBefore l[a].ag n=false=>(show ∀h2:a<l.length,bytesBefore l[a].ag n=false from λ_=>hb));clear hcs v2 gO;generalize l[a].ag=x at*
       rcases hbl:Op.bytesLess x n with _|_
       ·have HE:=aa (HEd.o (by rw [<-lF.o];exact hbl))
        go_wp2
        go_meet
        case rel=>exact⟨a,by omega,rfl,rfl,LU,HE⟩
       ·have HE:=aa (oD.o (by rw [<-lF.o];exact hbl))
        go_wp2
        go_roundg (gk-1)
        case measure=>omega
        case rel=>exact⟨a+1,by omega,by go_num,rfl,HE⟩
     ·have eu:¬(a:Int)<(l.length:Int):=by omega
      go_wp2
      go_meet
      case rel=>exact⟨a,by omega,rfl,rfl,LU,aa (λh=>absurd h hlt)⟩
   case rest=>
    obtain⟨a,ha,rfl,hw,LU,HAf⟩:=hcut;obtain rfl:=hw.symm;have fJ:=aa (uq.o a ha (λi hi=>LU.o i (by omega) hi) HAf.o);have acT:=aa (show(nP s n t).1=0 by rw [eJ.o]);clear uq
    have b1:0+a<=maxLen:=by unfold maxLen;omega
    have b2:(0+a)*80<=140737488355328:=by omega
    rcases HF.o with⟨hv,hnil⟩|⟨g,cap,hv,eP,gO,qU,hcs⟩
    ·subst hnil
     have ha0:a=0:=by simpa using ha
     subst ha0
     injection hv with v1 v2 v3
     subst v1 v3;have hx0:xs= []:=List.eq_nil_of_length_eq_zero (by simpa using VF);subst hx0
     have b3:0+1<=maxLen:=by unfold maxLen;omega
     have b4:(0+1)*80<=140737488355328:=by omega
     clear b1 b2 LU HAf xQ kp v2
     go_upto_region 15 with fail
     obtain⟨i0,nW,hz0,hz1,hz2⟩:=info_parts sB
     go_wp2_with (at_builtin;refine bC _ rfl _ _ 118 rfl w.heap.size 169 i0 (.agg #[.string ⟨#[]⟩,.string ⟨#[]⟩,.bool false,.string ⟨#[]⟩,.slice none 0 0]) 5 80 underlying118 nW hz0 hz1 hz2 rfl (by decide) (.slice none 0 0) 0 [] rfl (World.ownsRow_nil _ _ _ _) ⟨w.heap.size,0,none⟩ 1 1 [.string ⟨n.toArray⟩,.string ⟨t.toArray⟩,.bool false,.string ⟨#[]⟩,.slice none 0 0] rfl rfl (Qi w _ _ _ _ _ _) (aa5 rfl rfl rfl rfl rfl) (by omega) b3 b4 (by simp) ?_)
     intro g2 c2 w3 hown aB aJ;have lW:=aa hown;have dy:=aa (dF (b:=w.heap.size) (aA aB) (λk e=>by simp [Value.ownBlock]at e) (Nat.le_refl _));have hs3:=dy.o.size;have c03:=(dy.o.cell (p:=⟨sb,0,none⟩) cl).trans c0
     have cl3:sb<w3.heap.size:=by omega
     have cf3:∀o,w3.frozen? ⟨sb,o,none⟩=false:=λo=>(dy.o.frozen (p:=⟨sb,o,none⟩) cl).trans (cf o)
     have hc2:1<=c2:=Ad lW.o;have qi:=aa (fJ.o w3 (some ⟨g2,0,none⟩) c2 1 rfl dy.o (by simpa using lW.o));clear hown aB aJ nW hz0 hz1 hz2;go_wp2;go_ret;rw [eJ.o];exact⟨rfl,qi.o⟩
    ·injection hv with v1 v2 v3
     subst v1 v3
     have ui:(a:Int)<=(l.length:Int):=by omega
     have Xw:=aa (x8 xQ.o (a*5));have Yf:=aa (nD xQ.o (a*5));have eo:=aa (show ∀u∈xs.take (a*5),u.oneCell'=true from λu hu=>kp.o u (List.mem_of_mem_take hu));have et:=aa (show ∀u∈xs.drop (a*5),u.oneCell'=true from λu hu=>kp.o u (List.mem_of_mem_drop hu))
     have hx1:(xs.take (a*5)).length=a*5:=by rw [List.length_take];omega
     have hx2:(xs.drop (a*5)).length=(l.length-a)*5:=by rw [List.length_drop];omega
     clear hcs v2 gO;have hlc:=Ad xQ.o.1
     have hac:(a:Int)<=(lc:Int):=by omega
     have ac6:a<=lc:=by omega
     obtain⟨i0,nW,hz0,hz1,hz2⟩:=info_parts sB
     go_wp2_with (at_builtin;refine mB _ rfl _ _ 118 rfl w.heap.size 169 i0 (.agg #[.string ⟨#[]⟩,.string ⟨#[]⟩,.bool false,.string ⟨#[]⟩,.slice none 0 0]) 5 80 underlying118 nW hz0 hz1 hz2 rfl (by decide) (.slice none 0 0) 0 [] rfl (World.ownsRow_nil _ _ _ _) ⟨g,0,none⟩ a lc (xs.take (a*5)) rfl hx1 Xw.o eo.o b1 b2 (Nat.le_refl _) ?_)
     intro o1 c1 w2 hown aB aJ;have th:=aa hown;have cU:=aa (dF (b:=w.heap.size) aB (λk e=>by simp [Value.ownBlock]at e) (Nat.le_refl _));have hs2:=cU.o.size;have c0':=(cU.o.cell (p:=⟨sb,0,none⟩) cl).trans c0
     have b3:a+1<=maxLen:=by unfold maxLen;omega
     have b4:(a+1)*80<=140737488355328:=by omega
     clear hown aB aJ
     go_wp2_with (at_builtin;refine mB _ rfl _ _ 118 rfl w.heap.size 169 i0 (.agg #[.string ⟨#[]⟩,.string ⟨#[]⟩,.bool false,.string ⟨#[]⟩,.slice none 0 0]) 5 80 underlying118 nW hz0 hz1 hz2 rfl (by decide) (.slice o1 a c1) a (xs.take (a*5)) rfl (th.o.alloc _) ⟨w2.heap.size,0,none⟩ 1 1 [.string ⟨n.toArray⟩,.string ⟨t.toArray⟩,.bool false,.string ⟨#[]⟩,.slice none 0 0] rfl rfl (Qi w2 _ _ _ _ _ _) (aa5 rfl rfl rfl rfl rfl) b3 b4 (by simp;omega) ?_)
     intro o2 c2 w3 hown aB aJ;have lW:=aa hown;have dy:=aa (cU.o.trans (dF (b:=w.heap.size) (aA aB) (λk e=>(aG th.o k e).1) hs2));have hs3:=dy.o.size;have aa6:=(dy.o.cell (p:=⟨sb,0,none⟩) cl).trans c0
     have cl3:sb<w3.heap.size:=by omega
     have cf3:∀o,w3.frozen? ⟨sb,o,none⟩=false:=λo=>(dy.o.frozen (p:=⟨sb,o,none⟩) cl).trans (cf o)
     have DJ:=aa (xA Yf.o dy.o eP)
     have b5:a+1+(l.length-a)<=maxLen:=by unfold maxLen;omega
     have b6:(a+1+(l.length-a))*80<=140737488355328:=by omega
     clear hown aB aJ c0'
     by_cases QD:lc=a
     ·have V8:=aa (show ∀j u,(xs.drop (a*5))[j]?=some u->w3.cell? ((⟨g,0,none⟩:Addr).add j)=some u from λj u hj=>by
       have:(xs.drop (a*5)).length=0:=by omega
       rw [List.eq_nil_of_length_eq_zero this]at hj;simp at hj)
      go_wp2_with (at_builtin;refine mB _ rfl _ _ 118 rfl w.heap.size 169 i0 (.agg #[.string ⟨#[]⟩,.string ⟨#[]⟩,.bool false,.string ⟨#[]⟩,.slice none 0 0]) 5 80 underlying118 nW hz0 hz1 hz2 rfl (by decide) (.slice o2 (a+1) c2) (a+1) (xs.take (a*5)++ [.string ⟨n.toArray⟩,.string ⟨t.toArray⟩,.bool false,.string ⟨#[]⟩,.slice none 0 0]) rfl lW.o ⟨g,0,none⟩ (l.length-a) _ (xs.drop (a*5)) rfl hx2 V8.o et.o b5 b6 hs3 ?_)
      intro o3 c3 w4 hown aB aJ;have A8:=aa hown;have iw:=aa (dy.o.trans (dF (b:=w.heap.size) aB (λk e=>(aG lW.o k e).1) hs3));have mC:=iw.o.size;have c04:=(iw.o.cell (p:=⟨sb,0,none⟩) cl).trans c0
      have cl4:sb<w4.heap.size:=by omega
      have cf4:∀o,w4.frozen? ⟨sb,o,none⟩=false:=λo=>(iw.o.frozen (p:=⟨sb,o,none⟩) cl).trans (cf o)
      have qi:=aa (fJ.o w4 o3 c3 (a+1+(l.length-a)) (by omega) iw.o (by rw [List.append_assoc];exact A8.o));clear hown aB aJ aa6;go_wp2;go_ret;rw [eJ.o];exact⟨rfl,qi.o⟩
     ·have ac7:¬a=lc:=by omega
      have ac8:¬lc-a=0:=by omega
      have ac9:0<lc-a:=by omega
      have acA:¬lc<=a:=by omega
      have acB:a<lc:=by omega
      go_wp2_with (at_builtin;refine mB _ rfl _ _ 118 rfl w.heap.size 169 i0 (.agg #[.string ⟨#[]⟩,.string ⟨#[]⟩,.bool false,.string ⟨#[]⟩,.slice none 0 0]) 5 80 underlying118 nW hz0 hz1 hz2 rfl (by decide) (.slice o2 (a+1) c2) (a+1) (xs.take (a*5)++ [.string ⟨n.toArray⟩,.string ⟨t.toArray⟩,.bool false,.string ⟨#[]⟩,.slice none 0 0]) rfl lW.o ⟨g,a*5,none⟩ (l.length-a) _ (xs.drop (a*5)) rfl hx2 DJ.o et.o b5 b6 hs3 ?_)
      intro o3 c3 w4 hown aB aJ;have A8:=aa hown;have iw:=aa (dy.o.trans (dF (b:=w.heap.size) aB (λk e=>(aG lW.o k e).1) hs3));have mC:=iw.o.size;have c04:=(iw.o.cell (p:=⟨sb,0,none⟩) cl).trans c0
      have cl4:sb<w4.heap.size:=by omega
      have cf4:∀o,w4.frozen? ⟨sb,o,none⟩=false:=λo=>(iw.o.frozen (p:=⟨sb,o,none⟩) cl).trans (cf o)
      have qi:=aa (fJ.o w4 o3 c3 (a+1+(l.length-a)) (by omega) iw.o (by rw [List.append_assoc];exact A8.o));clear hown aB aJ aa6;go_wp2;go_ret;rw [eJ.o];exact⟨rfl,qi.o⟩
 have hjn:(j:Int)<(l.length:Int):=by omega
 have L2:¬(j:Int)<0:=by omega
 have hj1:(0:Int)<=(j:Int):=by omega
 have eJ:=aa (JU (s:=s) (t:=t) wG (λh=>h.elim ht6 λh=>h.1 (by rw [<-lK,<-e2];exact List.mem_map.2 ⟨_,List.getElem_mem hj,rfl⟩)));rw [show ju n l 0=(j:Int) by rw [e1];congr 1;omega]at pq
 rcases hT.cells with⟨_,rfl⟩|⟨g,cap,hv,eP,gO,qU,hcs⟩
 ·simp at hj
 injection hv with v1 v2 v3
 subst v1 v3;have xJ:=aa (uu.put h.own hb hT hL hK hA hR hr j hj n t e2);obtain⟨uv,d0,d1,_⟩:=hcs j hj
 have XL:∀o,w.frozen? ⟨g,o,none⟩=false:=by
  obtain⟨xs,a,_⟩:=hT
  rcases a.1.2 with⟨e,_⟩|⟨g0,lH,aU,e,_,hcb,_⟩
  ·simp at e
  ·simp only [Value.slice.injEq,Option.some.injEq,Addr.mk.injEq]at e
   obtain⟨⟨rfl,_⟩,_,rfl⟩:=e;exact aj hcb
 clear wG h hb hT hL hK hA hR hr lK e1 e2 hcs v2 oh
 go_enter func51,ntmps51
 go_wp2_with fail
 refine AG.o.mono ?_;rintro e w1 ⟨rfl,rfl⟩
 go_wp2_with fail
 refine pq.o.mono ?_;rintro e w1 ⟨rfl,rfl⟩;go_wp2;go_ret;rw [eJ.o];exact⟨rfl,xJ.o⟩
theorem FY(h:uu S w sb s Lb)(hr:bY (aZ s.L))(hf:s.L.length<=8)(n:List UInt8):
  Calls prog 52 #[.pointer (some ⟨sb,0,none⟩),.string ⟨n.toArray⟩] w (Cf S w sb (ub s n) Lb):=by
 obtain⟨l,lo,lc,kv,iv,hb,hT,hL,ms,hK,hA,hR⟩:=h.cells;have lK:=hL.aZ
 have rU:l.length<=8:=by rw [hL.1];exact hf
 have c0:=ae hb 0;have cl:=af hb;have cf:=aj hb;simp at c0;have oh:=aa (λc=>Cf.same h c);have pq:=aa (Ca l S w sb _ kv iv _ hb hT n)
 rcases xz n l 0 with⟨e1,e2⟩|⟨j,hj,e1,e2⟩
 ·rw [lK]at e2
  have eJ:=aa (show ub s n=(3,s) by unfold ub;rw [if_neg e2]);rw [e1]at pq;clear h hb hT hL hK hA hR hr lK e1 e2
  go_enter func52,ntmps52
  go_wp2_with fail
  refine pq.o.mono ?_;rintro e w1 ⟨rfl,hw⟩;obtain rfl:=hw.symm;go_wp2;go_ret;rw [eJ.o];exact oh.o 3
 have hjn:(j:Int)<(l.length:Int):=by omega
 have L2:¬(j:Int)<0:=by omega
 have hj1:(0:Int)<=(j:Int):=by omega
 have eJ:=aa (show ub s n=(0,{s with L:=oy n s.L}) by unfold ub;rw [if_pos (by rw [<-lK,<-e2];exact List.mem_map.2 ⟨_,List.getElem_mem hj,rfl⟩)]);rw [show ju n l 0=(j:Int) by rw [e1];congr 1;omega]at pq;obtain⟨xs,hrow,kV⟩:=hT.cellsIn
 rcases hT.cells with⟨_,rfl⟩|⟨g,cap,hv,eP,gO,qU,hcs⟩
 ·simp at hj
 injection hv with v1 v2 v3
 subst v1 v3
 have fJ:=aa (λ(w':World) (o:Option Addr) (c m:Nat) (hm:m=l.length-1) (Xv:Below w.heap.size w w') (hown:w'.ownsRow w.heap.size 169 5 (.slice o m c) m (xs.take (j*5)++xs.drop ((j+1)*5)))=>(show bG S w (w'.setCell ⟨sb,0,none⟩ (.slice o m c))/\uu (λk=>S k\/w.heap.size<=k) (w'.setCell ⟨sb,0,none⟩ (.slice o m c)) sb {s with L:=oy n s.L} Lb by
  have hlen:(l.take j++l.drop (j+1)).length=m:=by simp;omega
  subst hlen;refine uu.newRow h.own hb hK hA hR Xv hown ((kV.take j).append (kV.drop (j+1))) ?_ rfl rfl;show oN _ (oy n s.L)
  have U2:j<s.L.length:=by rw [<-hL.1];exact hj
  rw [Tj hr U2 (by rw [<-(hL.2 j hj U2).ag];exact e2)]
  exact(hL.take j).append (hL.drop (j+1))))
 have VF:=kV.1;have Xw:=aa (x8 hrow (j*5));have Yf:=aa (nD hrow ((j+1)*5));have eo:=aa (show ∀u∈xs.take (j*5),u.oneCell'=true from λu hu=>kV.yr u (List.mem_of_mem_take hu));have et:=aa (show ∀u∈xs.drop ((j+1)*5),u.oneCell'=true from λu hu=>kV.yr u (List.mem_of_mem_drop hu))
 have hx1:(xs.take (j*5)).length=j*5:=by rw [List.length_take];omega
 have JK:=aa (show(xs.drop ((j+1)*5)).length=(l.length-(j+1))*5 by rw [List.length_drop];omega);have hlc:=Ad hrow.1
 have hac:(j:Int)<=(lc:Int):=by omega
 have ac6:j<=lc:=by omega
 have b1:0+j<=maxLen:=by unfold maxLen;omega
 have b2:(0+j)*80<=140737488355328:=by omega
 clear h hb hT hL hK hA hR hr lK e1 e2 hcs v2 oh hrow kV gO
 go_enter func52,ntmps52
 go_wp2_with fail
 refine pq.o.mono ?_;rintro e w1 ⟨rfl,hw⟩;obtain rfl:=hw.symm;obtain⟨i0,nW,hz0,hz1,hz2⟩:=info_parts sB
 go_wp2_with (at_builtin;refine mB _ rfl _ _ 118 rfl w.heap.size 169 i0 (.agg #[.string ⟨#[]⟩,.string ⟨#[]⟩,.bool false,.string ⟨#[]⟩,.slice none 0 0]) 5 80 underlying118 nW hz0 hz1 hz2 rfl (by decide) (.slice none 0 0) 0 [] rfl (World.ownsRow_nil _ _ _ _) ⟨g,0,none⟩ j lc (xs.take (j*5)) rfl hx1 Xw.o eo.o b1 b2 (Nat.le_refl _) ?_)
 intro o2 c2 w3 hown aB aJ;have lW:=aa hown;have dy:=aa (dF (b:=w.heap.size) aB (λk e=>by simp [Value.ownBlock]at e) (Nat.le_refl _));have hs3:=dy.o.size;have c03:=(dy.o.cell (p:=⟨sb,0,none⟩) cl).trans c0
 have cl3:sb<w3.heap.size:=by omega
 have cf3:∀o,w3.frozen? ⟨sb,o,none⟩=false:=λo=>(dy.o.frozen (p:=⟨sb,o,none⟩) cl).trans (cf o)
 have DJ:=aa (xA Yf.o dy.o eP);clear hown aB aJ
 have SZ:(j:Int)+1<=9223372036854775807:=by omega
 have adR:(j:Int)+1<=(l.length:Int):=by omega
 have adS:j+1<=l.length:=by omega
 have b5:j+(l.length-(j+1))<=maxLen:=by unfold maxLen;omega
 have b6:(j+(l.length-(j+1)))*80<=140737488355328:=by omega
 by_cases QD:lc=j+1
 ·have V8:=aa (show ∀i u,(xs.drop ((j+1)*5))[i]?=some u->w3.cell? ((⟨g,0,none⟩:Addr).add i)=some u from λi u hi=>by
   have:(xs.drop ((j+1)*5)).length=0:=by have:=JK.o;omega
   rw [List.eq_nil_of_length_eq_zero this]at hi;simp at hi)
  go_wp2_with (at_builtin;refine mB _ rfl _ _ 118 rfl w.heap.size 169 i0 (.agg #[.string ⟨#[]⟩,.string ⟨#[]⟩,.bool false,.string ⟨#[]⟩,.slice none 0 0]) 5 80 underlying118 nW hz0 hz1 hz2 rfl (by decide) (.slice o2 j c2) j (xs.take (j*5)) rfl lW.o ⟨g,0,none⟩ (l.length-(j+1)) _ (xs.drop ((j+1)*5)) rfl JK.o V8.o et.o b5 b6 hs3 ?_)
  intro o3 c3 w4 hown aB aJ;have A8:=aa hown;have iw:=aa (dy.o.trans (dF (b:=w.heap.size) aB (λk e=>(aG lW.o k e).1) hs3));have mC:=iw.o.size;have c04:=(iw.o.cell (p:=⟨sb,0,none⟩) cl).trans c0
  have cl4:sb<w4.heap.size:=by omega
  have cf4:∀o,w4.frozen? ⟨sb,o,none⟩=false:=λo=>(iw.o.frozen (p:=⟨sb,o,none⟩) cl).trans (cf o)
  have qi:=aa (fJ.o w4 o3 c3 (j+(l.length-(j+1))) (by omega) iw.o A8.o);clear hown aB aJ c03;go_wp2;go_ret;rw [eJ.o];exact⟨rfl,qi.o⟩
 have ac7:¬j+1=lc:=by omega
 have ac8:¬lc-(j+1)=0:=by omega
 have ac9:0<lc-(j+1):=by omega
 have acA:¬lc<=j+1:=by omega
 have acB:j+1<lc:=by omega
 go_wp2_with (at_builtin;refine mB _ rfl _ _ 118 rfl w.heap.size 169 i0 (.agg #[.string ⟨#[]⟩,.string ⟨#[]⟩,.bool false,.string ⟨#[]⟩,.slice none 0 0]) 5 80 underlying118 nW hz0 hz1 hz2 rfl (by decide) (.slice o2 j c2) j (xs.take (j*5)) rfl lW.o ⟨g,(j+1)*5,none⟩ (l.length-(j+1)) _ (xs.drop ((j+1)*5)) rfl JK.o DJ.o et.o b5 b6 hs3 ?_)
 intro o3 c3 w4 hown aB aJ;have A8:=aa hown;have iw:=aa (dy.o.trans (dF (b:=w.heap.size) aB (λk e=>(aG lW.o k e).1) hs3));have mC:=iw.o.size;have c04:=(iw.o.cell (p:=⟨sb,0,none⟩) cl).trans c0
 have cl4:sb<w4.heap.size:=by omega
 have cf4:∀o,w4.frozen? ⟨sb,o,none⟩=false:=λo=>(iw.o.frozen (p:=⟨sb,o,none⟩) cl).trans (cf o)
 have qi:=aa (fJ.o w4 o3 c3 (j+(l.length-(j+1))) (by omega) iw.o A8.o);clear hown aB aJ c03;go_wp2;go_ret;rw [eJ.o];exact⟨rfl,qi.o⟩
abbrev Qk(t:TypeId):Prop:=t=169\/t=185\/t=251\/t=361\/t=260\/t=262\/t=5
def gL(w w':World):Prop:=∀(k:Nat) (c:Array Value) (t:TypeId) (f:Nat×Nat),w.heap[k]?=some (.cells c t f)->Qk t->w'.heap[k]?=w.heap[k]?
theorem gL.trans{a b c:World}(h:gL a b)(k:gL b c):gL a c:=λi x t f hx ht=>by
 have e:=h i x t f hx ht;exact(k i x t f (e.trans hx) ht).trans e
theorem gL.aW(h:Below w.heap.size w w'):gL w w':=λk c t f hk _=>h.block k (af hk)
theorem gL.set{t:TypeId}(h:w.heap[b]?=some (.cells c t f))(ht:¬Qk t)(o:Nat)(u:Value):gL w (w.setCell ⟨b,o,none⟩ u):=λk c' t' f' hk Pc=>Below.heap_setCell _ _ _ _ (λe=>by
 have e:k=b:=e;rw [e,h]at hk
 injection hk with hk
 injection hk with _ e _
 exact ht (e▸Pc))
theorem gL.grown{t:TypeId}(h:w.ownsRow b t size v n xs)(ht:¬Qk t)(hg:w.grownBy w' v.ownBlock):gL w w':=λk c t' f hk Pc=>hg.block k (af hk) λe=>by
 rcases h.2 with⟨rfl,_⟩|⟨g,cap,aU,rfl,_,hc,_⟩
 ·simp [Value.ownBlock]at e
 ·simp [Value.ownBlock]at e
  subst e;rw [hc]at hk
  injection hk with hk
  injection hk with _ e _
  exact ht (e▸Pc)
theorem cW.fH{t:TypeId}(h:cW S w t size v n xs)(hk:gL w w')(ht:Qk t):cW S w' t size v n xs:=
 ⟨aM h.1 λg e=>by
  rcases h.1.2 with⟨rfl,_⟩|⟨g',cap,aU,rfl,_,hc,_⟩
  ·simp [Value.ownBlock]at e
  ·simp [Value.ownBlock]at e
   subst e
   exact hk _ _ _ _ hc ht,h.2⟩
theorem jr.fH{m:RM}(h:jr S w lv iv fv m)(hk:gL w w'):jr S w' lv iv fv m:=by
 refine⟨h.sh,λhb=> ?_⟩;obtain⟨⟨g0,cap,a,b,d⟩,hi,xs,hf,hx⟩:=h.ok hb;obtain⟨c',f',q⟩:=d.type
 exact⟨⟨g0,cap,a,b,d.keep (hk _ _ _ _ q (by decide))⟩,hi.fH hk (by decide),xs,hf.fH hk (by decide),λj hj=>by
  obtain⟨pv,kv,p,q,r⟩:=hx j hj
  exact⟨pv,kv,p,q.fH hk (by decide),r.fH hk (by decide)⟩⟩
theorem eL.fH{l:List (List UInt8×RM)}(h:eL S w v l)(hk:gL w w'):eL S w' v l:=by
 obtain⟨xs,a,b⟩:=h;exact⟨xs,a.fH hk (by decide),λj hj=>by obtain⟨lv,iv,fv,p,q⟩:=b j hj;exact⟨lv,iv,fv,p,q.fH hk⟩⟩
theorem eW.fH(h:eW S w v l)(hk:gL w w'):eW S w' v l:=by
 obtain⟨xs,a,b⟩:=h;exact⟨xs,a.fH hk (by decide),λj hj=>by obtain⟨uv,p,q,r⟩:=b j hj;exact⟨uv,p,q,λhx=>(r hx).fH hk (by decide)⟩⟩
theorem bG.Ql{r:Option Nat}(h:bG S w wr)(hg:wr.grownBy w' r)(hr:∀k,r=some k->w.heap.size<=k):bG S w w':=
 ⟨hg.os.trans h.os,hg.tape.trans h.tape,hg.output.trans h.output,Nat.le_trans h.size hg.size,λk hk hn=>(hg.block k (Nat.lt_of_lt_of_le hk h.size) (λe=>by have:=hr k e.symm;omega)).trans (h.block k hk hn)⟩
theorem fB{t t':TypeId}(h:w.ownsRow b t size v n xs)(hg:w.heap[g]?=some (.cells c t' f))(ht:t≠t')(o:Nat)(u:Value):(w.setCell ⟨g,o,none⟩ u).ownsRow b t size v n xs:=
 a8 h (λe=>by
  rcases h.2 with⟨rfl,_⟩|⟨g0,cap,aU,rfl,_,hc,_⟩
  ·simp [Value.ownBlock]at e
  ·simp [Value.ownBlock]at e
   subst e;rw [hg]at hc
   injection hc with hc
   injection hc with _ e _
   exact ht e.symm) o u
theorem eW.type(h:eW S w (.slice (some ⟨g,0,none⟩) n cap) l):S g/\∃c f,w.heap[g]?=some (.cells c 169 f):=by
 obtain⟨xs,a,_⟩:=h;refine⟨a.2 g rfl,?_⟩
 rcases a.1.2 with⟨e,_⟩|⟨g0,lH,aU,e,_,hcb,_⟩
 ·simp at e
 simp only [Value.slice.injEq,Option.some.injEq,Addr.mk.injEq]at e;obtain⟨⟨rfl,_⟩,_,rfl⟩:=e;exact⟨_,_,hcb⟩
theorem sV.none{x:wU}{m:Md}(h:sV x m):sV {x with has:=false,aeg:= []} {m with obj:=Option.none}:=⟨h.ag,h.now,rfl,λo ho=>by cases ho⟩
theorem sV.some{x:wU}{m:Md}(h:sV x m)(o:Ob)(ho:o.aX=m.now):sV {x with has:=true,old:=m.now,aeg:=o.aeg} {m with obj:=Option.some o}:=
 ⟨h.ag,h.now,rfl,λo' h'=>by injection h' with h';subst h';exact⟨ho.symm,rfl⟩⟩
structure Rb (S:Nat->Prop) (w:World) (sb:Nat) (lv iv av:Value) (bt:Bool) (ms:List (List UInt8×RM)) (T:List Md) (C:List Nm) (D:List Dg) (dv:Value) (wr:World):Prop where
 but:bG S w wr
 mem:∃(l:List wU) (kv:Value),wr.heap[sb]?=some (.cells #[lv,kv,iv,.bool bt] 121 (0,0))/\eW (λk=>S k\/w.heap.size<=k) wr lv l/\oN l T/\wr.ownsRow w.heap.size 9 1 kv C.length (jA C)
 all:eL (λk=>S k\/w.heap.size<=k) wr av ms
 Da:wr.ownsRow w.heap.size 61 3 dv D.length (b_ D)
 own:S sb
 lt:sb<w.heap.size
section
variable {S:Nat->Prop} {w:World} {sb:Nat} {lv iv av:Value} {bt:Bool} {ms:List (List UInt8×RM)} {T:List Md} {C:List Nm} {D:List Dg} {dv:Value} {wr w':World}
theorem Rb.below(h:Rb S w sb lv iv av bt ms T C D dv wr)(hb:Below wr.heap.size wr w'):Rb S w sb lv iv av bt ms T C D dv w':=by
 obtain⟨l,kv,a,b,c,d⟩:=h.mem;exact⟨h.but.trans (bG.aW hb),⟨l,kv,(hb.block _ (af a)).trans a,b.fH (gL.aW hb),c,aM d λk e=>hb.block k (aQ d k e).2⟩,h.all.fH (gL.aW hb),aM h.Da λk e=>hb.block k (aQ h.Da k e).2,h.own,h.lt⟩
theorem Rb.last{n:Nm}(h:Rb S w sb lv iv av bt ms T C D dv wr)(a:wr.heap[sb]?=some (.cells #[lv,kv,iv,.bool bt] 121 (0,0)))(b:eW (λk=>S k\/w.heap.size<=k) wr lv l)(c:oN l T)(d:wr.ownsRow w.heap.size 9 1 kv C.length (jA C))(hown:w'.ownsRow w.heap.size 9 1 v' (C++ [n]).length (jA (C++ [n])))(hg:wr.grownBy w' kv.ownBlock):Rb S w sb lv iv av bt ms T (C++ [n]) D dv (w'.setCell ⟨sb,1,none⟩ v'):=by
 have hlt:=h.lt;have hk:=gL.grown d (by decide) hg
 have hne:kv.ownBlock≠some sb:=λe=>by have:=(aQ d _ e).1;omega
 have a':w'.heap[sb]?=some (.cells #[lv,kv,iv,.bool bt] 121 (0,0)):=(hg.block _ (af a) (λe=>hne e.symm)).trans a;have hk2:=gL.set a' (by decide) 1 v'
 have Ka:∀{t:TypeId} {size n:Nat} {v:Value} {xs:List Value},w'.ownsRow w.heap.size t size v n xs->v.ownBlock≠some sb:=λho e=>by have:=(aQ ho _ e).1;omega
 have hd:=dL h.Da d (by decide) hg;exact⟨(h.but.Ql hg λk e=>(aQ d k e).1).set (Or.inl h.own) _ _,⟨l,v',ax a' 1 v',(b.fH hk).fH hk2,c,a8 hown (Ka hown) _ _⟩,(h.all.fH hk).fH hk2,a8 hd (Ka hd) _ _,h.own,h.lt⟩
theorem Rb.diag{d:Dg}(h:Rb S w sb lv iv av bt ms T C D dv wr)(hown:w'.ownsRow w.heap.size 61 3 v' (D++ [d]).length (b_ (D++ [d])))(hg:wr.grownBy w' dv.ownBlock):Rb S w sb lv iv av bt ms T C (D++ [d]) v' w':=by
 have hlt:=h.lt;obtain⟨l,kv,a,b,c,e⟩:=h.mem;have hk:=gL.grown h.Da (by decide) hg;exact⟨h.but.Ql hg λk e=>(aQ h.Da k e).1,⟨l,kv,(hg.block _ (af a) (λe=>by have:=(aQ h.Da _ e.symm).1;omega)).trans a,b.fH hk,c,dL e h.Da (by decide) hg⟩,h.all.fH hk,hown,h.own,h.lt⟩
theorem Rb.has(h:Rb S w sb (.slice (some ⟨g,0,none⟩) l.length cap) iv av bt ms T C D dv wr)(a:wr.heap[sb]?=some (.cells #[.slice (some ⟨g,0,none⟩) l.length cap,kv,iv,.bool bt] 121 (0,0)))(b:eW (λk=>S k\/w.heap.size<=k) wr (.slice (some ⟨g,0,none⟩) l.length cap) l)(c:oN l T)(d:wr.ownsRow w.heap.size 9 1 kv C.length (jA C))(hj:j<l.length)(hm:sV l[j] m):∃l',l'.length=l.length/\(∀h':j<l'.length,l'[j]={l[j]with has:=false,aeg:= []})/\(wr.setCell ⟨g,j*5+2,none⟩ (.bool false)).heap[sb]?=some (.cells #[.slice (some ⟨g,0,none⟩) l'.length cap,kv,iv,.bool bt] 121 (0,0))/\eW (λk=>S k\/w.heap.size<=k) (wr.setCell ⟨g,j*5+2,none⟩ (.bool false)) (.slice (some ⟨g,0,none⟩) l'.length cap) l'/\
   oN l' (T.set j {m with obj:=none})/\(wr.setCell ⟨g,j*5+2,none⟩ (.bool false)).ownsRow w.heap.size 9 1 kv C.length (jA C)/\Rb S w sb (.slice (some ⟨g,0,none⟩) l'.length cap) iv av bt ms (T.set j {m with obj:=none}) C D dv (wr.setCell ⟨g,j*5+2,none⟩ (.bool false)):=by
 obtain⟨qU,ct,cf,hg⟩:=b.type
 have hne:sb≠g:=λe=>by
  rw [e,hg]at a
  injection a with a
  injection a with _ e _
  exact absurd e (by decide)
 have h1:=b.one j hj 2 (.bool false) {l[j]with has:=false,aeg:= []} (λuv i hi=>by
  have:i=0\/i=1\/i=2\/i=3\/i=4:=by omega
  rcases this with rfl|rfl|rfl|rfl|rfl<;>rfl) (λh=>by cases h) (by omega)
 have a':=(Below.heap_setCell wr ⟨g,j*5+2,none⟩ (.bool false) sb hne).trans a;have d':=fB d hg (by decide) (j*5+2) (.bool false);have hl:(l.set j {l[j]with has:=false,aeg:= []}).length=l.length:=List.length_set;have hT:=c.set j hm.none;refine⟨l.set j {l[j]with has:=false,aeg:= []},hl,λh'=>List.getElem_set_self _,by rw [hl];exact a',by rw [hl];exact h1,hT,d',?_⟩;rw [hl];exact⟨h.but.set qU _ _,⟨_,kv,a',h1,hT,d'⟩,h.all.set hg ⟨by decide,by decide,by decide,by decide,by decide⟩ _ _,fB h.Da hg (by decide) _ _,h.own,h.lt⟩
theorem Rb.obj{uo:Option Addr}{un uc:Nat}{o:Ob}(h:Rb S w sb (.slice (some ⟨g,0,none⟩) l.length cap) iv av bt ms T C D dv wr)(a:wr.heap[sb]?=some (.cells #[.slice (some ⟨g,0,none⟩) l.length cap,kv,iv,.bool bt] 121 (0,0)))(b:eW (λk=>S k\/w.heap.size<=k) wr (.slice (some ⟨g,0,none⟩) l.length cap) l)(c:oN l T)(d:wr.ownsRow w.heap.size 9 1 kv C.length (jA C))(hj:j<l.length)(hm:sV l[j] m)(ho:o.aX=m.now)(hu:cW (λk=>S k\/w.heap.size<=k) wr 185 3 (.slice uo un uc) o.aeg.length (bo o.aeg)):
  Rb S w sb (.slice (some ⟨g,0,none⟩) l.length cap) iv av bt ms (T.set j {m with obj:=some o}) C D dv (((wr.setCell ⟨g,j*5+2,none⟩ (.bool true)).setCell ⟨g,j*5+3,none⟩ (.string ⟨m.now.toArray⟩)).setCell ⟨g,j*5+4,none⟩ (.slice uo un uc)):=by
 obtain⟨qU,ct,cf,hg⟩:=b.type;obtain⟨c2,hg2⟩:=mI hg (j*5+2) (.bool true);obtain⟨c3,hg3⟩:=mI hg2 (j*5+3) (.string ⟨m.now.toArray⟩)
 have hne:sb≠g:=λe=>by
  rw [e,hg]at a
  injection a with a
  injection a with _ e _
  exact absurd e (by decide)
 have h1:=b.obj j hj m.now uo un uc o.aeg hu;have a':=(Below.heap_setCell _ ⟨g,j*5+4,none⟩ (.slice uo un uc) sb hne).trans ((Below.heap_setCell _ ⟨g,j*5+3,none⟩ (.string ⟨m.now.toArray⟩) sb hne).trans ((Below.heap_setCell wr ⟨g,j*5+2,none⟩ (.bool true) sb hne).trans a))
 have k3:∀{t:TypeId} {size n:Nat} {v:Value} {xs:List Value},t≠169->wr.ownsRow w.heap.size t size v n xs->(((wr.setCell ⟨g,j*5+2,none⟩ (.bool true)).setCell ⟨g,j*5+3,none⟩ (.string ⟨m.now.toArray⟩)).setCell ⟨g,j*5+4,none⟩ (.slice uo un uc)).ownsRow w.heap.size t size v n xs:=λht h=>fB (fB (fB h hg ht _ _) hg2 ht _ _) hg3 ht _ _
 have hN:Xu 169:=⟨by decide,by decide,by decide,by decide,by decide⟩;refine⟨((h.but.set qU _ _).set qU _ _).set qU _ _,⟨_,kv,a',h1,?_,k3 (by decide) d⟩,((h.all.set hg hN _ _).set hg2 hN _ _).set hg3 hN _ _,k3 (by decide) h.Da,h.own,h.lt⟩;exact c.set j (hm.some o ho)
end
theorem Qm(h:Dp m.now rm)(hb:rm.bad=true):ez E m=((4,rm.ai),none):=by
 rcases h.form with⟨_,hf⟩|⟨hb',_⟩
 ·unfold ez;rw [hf,h.ai hb]
 rw [hb]at hb';cases hb'
theorem Tl(h:Dp m.now rm)(hb:rm.bad=false):∃md,ir m.now=some md/\S_ rm md/\ez E m=(((fI E md).aK,(fI E md).ai),if(fI E md).aK=0 then some ⟨m.now,(lS m.ag E md).1,kC m.ag E md⟩else none):=by
 rcases h.form with⟨hb',_⟩|⟨_,md,hf,hm⟩
 ·rw [hb]at hb';cases hb'
 exact⟨md,hf,hm,by unfold ez;rw [hf]⟩
theorem uk.SJ(h:uk L ms)(hs:∀m∈L,m.now.length<=600):SH ms:=by
 intro x hx hb f hf;obtain⟨j,hj,rfl⟩:=List.getElem_of_mem hx
 have U2:j<L.length:=by rw [<-h.1];exact hj
 have hr:=(h.2 j U2 hj).2
 rcases hr.form with⟨hb',_⟩|⟨_,md,vL,hm⟩
 ·rw [hb]at hb';cases hb'
 have bp:=wI (hs _ (List.getElem_mem U2)) vL;obtain⟨i,hi,rfl⟩:=List.getElem_of_mem hf
 have uV:i<md.aR.length:=by rw [hm.aR.1];exact hi
 have has:=hm.aR.2 i uV hi;rw [has.aef,List.length_map];have:=(bp.fs _ (List.getElem_mem uV)).pl;omega
theorem Tm(hA:eL S w av ms)(hR:uk L ms)(hn:(aZ L).Nodup)(hs:∀m∈L,m.now.length<=600)(hj:j<L.length)(LB:j<ms.length)(hM:jr S w lv iv fv ms[j].2)(hS:∀k,S k->k<w.heap.size)(hb:ms[j].2.bad=false){md:Mod}(hf:ir L[j].now=some md)(hm:S_ ms[j].2 md):
  aa1 S w av lv iv fv ms ms[j].2 (aP L) md:=by
 have hr:=(hR.2 j hj LB).2;have ht:=hs _ (List.getElem_mem hj);have hl:=B_ L[j].now;exact⟨hA,hM,hS,hb,JQ hR hn,hm,by rw [hr.ws];exact⟨yh _,λs h=>tX _ (CT _ s h).2.1⟩,by rw [hr.ws];exact FR _,by rw [hr.ws];omega,hR.SJ hs,wI ht hf⟩
theorem IB(l:List (List UInt8×RM))(S:Nat->Prop)(w:World)(av:Value)(h:eL S w av l)(hz:SH l)(x:wU)(uo:Option Addr)(un uc:Nat)(hu:x.has=true->w.ownsRow 0 185 3 (.slice uo un uc) x.aeg.length (bo x.aeg))(hl:x.has=true->x.aeg.length<=100000000000):
  Calls prog 130 #[.agg #[.string ⟨x.ag.toArray⟩,.string ⟨x.now.toArray⟩,.bool x.has,.string ⟨x.old.toArray⟩,.slice uo un uc],av] w λe w'=>e=.returned (.bool (ke l x))/\Below w.heap.size w w':=by
 rcases hx:x.has with _|_
 ·have:=Cc l S w av h hz ⟨x.ag,x.now,false,x.old,[]⟩ uo un uc (λh=>by cases h) (by simp)
  have e:ke l x=false:=by unfold ke;rw [hx];rfl
  rw [e];exact this
 have:=Cc l S w av h hz x uo un uc hu (hl hx);rw [hx]at this;exact this
theorem Cg(j:Nat)(hj:j<L.length):en E (L.take (j+1))=en E (L.take j)++(if curr E L[j]then []else [L[j].ag]):=by
 unfold en;rw [List.take_succ_eq_append_getElem hj,List.filter_append,List.map_append]
 congr 1
 rcases hc:curr E L[j]with _|_<;>simp [hc]
theorem IC(j:Nat)(hj:j<L.length)(h:curr E L[j]=false):cS (cn E) L (j+1)=(cS (cn E) L j).set j {L[j]with obj:=(ez E L[j]).2}:=by
 rw [nh _ _ _ hj];unfold cn;rw [if_neg (by rw [h];simp)]
theorem ID(j:Nat)(hj:j<L.length)(h:curr E L[j]=true):cS (cn E) L (j+1)=cS (cn E) L j:=by
 rw [nh _ _ _ hj];unfold cn;rw [if_pos h];have:=ng (cn E) L j hj
 conv=>lhs;rw [<-this]
 exact List.set_getElem_self _
theorem Mh(j:Nat)(hj:j<L.length)(h:curr E L[j]=false):cA E (L.take (j+1))=cA E (L.take j)++(if(ez E L[j]).1.1=0 then []else [⟨L[j].ag,(ez E L[j]).1.1,(ez E L[j]).1.2⟩]):=by
 rw [n_ j hj];unfold vd;rw [if_neg (by rw [h];simp)]
 split<;>rfl
theorem Mi(j:Nat)(hj:j<L.length)(h:curr E L[j]=true):cA E (L.take (j+1))=cA E (L.take j):=by
 rw [n_ j hj];unfold vd;rw [if_pos h];simp
def U3(S:Nat->Prop)(w:World)(sb:Nat)(s:qb)(e:Ending)(w':World):Prop:=∃dv,e=.returned dv/\bG S w w'/\uu (λk=>S k\/w.heap.size<=k) w' sb (bz s).2 s.L/\w'.ownsRow w.heap.size 61 3 dv (bz s).1.length (b_ (bz s).1)
theorem IE(s:qb):(bz s).2.vX.isSome=decide ((bz s).1.length=0):=by
 unfold bz;simp only
 split
 ·next h=>rw [h];rfl
 next h=>
 have:¬(cA (aP s.L) s.L).length=0:=λe=>h (List.eq_nil_of_length_eq_zero e)
 simp [this]
theorem Rb.fin{dv:Value}{bt:Bool}(h:Rb S w sb lv iv av bt ms (cS (cn (aP s.L)) s.L s.L.length) (en (aP s.L) (s.L.take s.L.length)) (cA (aP s.L) (s.L.take s.L.length)) dv wr)(hR:uk s.L ms)(b:Bool)(hb:b=(bz s).2.vX.isSome):
  U3 S w sb s (.returned dv) ((wr.setCell ⟨sb,3,none⟩ (.bool b)).setCell ⟨sb,2,none⟩ av):=by
 have hlt:=h.lt;obtain⟨l,kv,a,bb,c,d⟩:=h.mem;rw [List.take_length]at d;have hd:=h.Da;rw [List.take_length]at hd
 have hm:cS (cn (aP s.L)) s.L s.L.length=(bz s).2.L:=by unfold cS bz;simp
 rw [hm]at c;have a1:=ax a 3 (.bool b);have a2:=ax a1 2 av;have k1:=gL.set a (by decide) 3 (.bool b);have k2:=gL.set a1 (by decide) 2 av
 have hne:∀{w:World} {t:TypeId} {size n:Nat} {v:Value} {xs:List Value} {wx:World},wx.ownsRow w.heap.size t size v n xs->sb<w.heap.size->v.ownBlock≠some sb:=λho hl e=>by have:=(aQ ho _ e).1;omega
 refine⟨dv,rfl,(h.but.set (Or.inl h.own) _ _).set (Or.inl h.own) _ _,⟨Or.inl h.own,l,ms,lv,kv,av,?_,(bb.fH k1).fH k2,c,?_,(h.all.fH k1).fH k2,hR⟩,?_⟩
 ·rw [<-hb];exact a2
 ·have d2:=a8 (a8 d (hne d hlt) 3 (.bool b)) (hne d hlt) 2 av
  exact⟨cI d2 (Nat.zero_le _),λg e=>Or.inr (aQ d2 g e).1⟩
 exact a8 (a8 hd (hne hd hlt) 3 (.bool b)) (hne hd hlt) 2 av
end Go.Proofs.YtpmmjkiclngpmaaGreatDoor
