/- YtpmmjkiclngpmaaGreatDoorB17 -/
import Derived.Test.YtpmmjkiclngpmaaGreatDoorB12
import Derived.Test.YtpmmjkiclngpmaaGreatDoorB16
set_option maxRecDepth 100000
set_option linter.unusedSimpArgs false
set_option linter.unusedVariables false
set_option maxHeartbeats 12800000
namespace Go.Proofs.YtpmmjkiclngpmaaGreatDoor
open Tryz
open Go.RowKit
variable{n x:Nm}{t:List UInt8}{a w w':World}{T S S':Nat->Prop}{xs:List Value}{v:Value}{size:Nat}
structure CF where
 mod:Nm
 ag:Nm
 gW:Bool
 ay:List Nat
 sig:List UInt8
 aee:Nat
 aK:List (Nat×Int)
 bq:List (List UInt8×List UInt8)
variable{fs:List CF}
structure Ob where
 aX:List UInt8
 aR:List CF
 aeg:List Us
structure Md where
 ag:Nm
 now:List UInt8
 obj:Option Ob
variable{L:List Md}{m:Md}
abbrev aZ(L:List Md):List Nm:=L.map λm=>m.ag
abbrev haves(L:List Md):List Nm:=(L.filter λm=>m.obj.isSome).map λm=>m.ag
def getM(L:List Md)(n:Nm):Option Md:=L.find? λm=>m.ag==n
def lX(L:List Md)(n:Nm):List UInt8:=((getM L n).map λm=>m.now).getD []
def xI(x:Md):List Md->List Md
 | []=> [x]
 |y::r=>if bytesBefore x.ag y.ag then x::y::r else y::xI x r
def jV(n:Nm)(t:List UInt8)(L:List Md):List Md:=if n∈aZ L then L.map λm=>if m.ag=n then {m with now:=t}else m else xI ⟨n,t,none⟩ L
def oy(n:Nm)(L:List Md):List Md:=L.filter λm=> !(m.ag==n)
theorem GN(x:Md)(L:List Md):aZ (xI x L)=qB x.ag (aZ L):=by
 induction L with
 |nil=>rfl
 |cons y r ih=>
  unfold xI;simp only [List.map_cons,qB]
  split
  ·rfl
  ·simp only [List.map_cons];rw [<-ih]
theorem mN(h:bY (aZ L))(n:Nm)(t:List UInt8):aZ (jV n t L)=jk n (aZ L):=by
 unfold jV
 split
 ·next hn=>
  rw [I_ h hn];unfold aZ;rw [List.map_map]
  refine List.map_congr_left λm _=> ?_
  show(if m.ag=n then _ else _:Md).ag=m.ag
  split<;>rfl
 next hn=>rw [GN,Nr hn]
theorem tQ(n:Nm)(L:List Md):aZ (oy n L)=(aZ L).filter λx=> !(x==n):=by
 unfold oy aZ;rw [List.filter_map]
 rfl
theorem N8(h:getM L n=some m):m∈L/\m.ag=n:=by
 unfold getM at h;exact⟨List.mem_of_find?_eq_some h,by have:=List.find?_some h;simpa using this⟩
theorem getM_none:getM L n=none↔n∉aZ L:=by
 unfold getM;rw [List.find?_eq_none];simp only [List.mem_map,not_exists,not_and,beq_iff_eq]
theorem mj(h:bY (aZ L))(hm:m∈L):getM L m.ag=some m:=by
 induction L with
 |nil=>cases hm
 |cons y r ih=>
  unfold getM;rw [List.find?_cons]
  rcases List.mem_cons.1 hm with rfl|hm
  ·simp
  ·have h1:bytesBefore y.ag m.ag=true:=List.rel_of_pairwise_cons h (List.mem_map.2 ⟨m,hm,rfl⟩)
   have hne:(y.ag==m.ag)=false:=by
    rw [beq_eq_false_iff_ne];intro e;rw [e,WideAt.bytes_irrefl]at h1
    cases h1
   rw [hne];exact ih (List.Pairwise.of_cons h) hm
theorem N9{x:Md}:m∈xI x L↔m=x\/m∈L:=by
 induction L with
 |nil=>simp [xI]
 |cons y r ih=>
  unfold xI
  split
  ·simp
  ·simp only [List.mem_cons,ih]
   constructor
   ·rintro(h|h|h)<;>simp [h]
   ·rintro(h|h|h)<;>simp [h]
theorem uM(h:m∈jV n t L):(m.ag=n/\m.now=t/\(m.obj=none\/∃m0∈L,m0.ag=n/\m.obj=m0.obj))\/(m.ag≠n/\m∈L):=by
 unfold jV at h
 split at h
 ·obtain⟨m0,h0,rfl⟩:=List.mem_map.1 h
  by_cases e:m0.ag=n
  ·rw [if_pos e];exact Or.inl ⟨e,rfl,Or.inr ⟨m0,h0,e,rfl⟩⟩
  ·rw [if_neg e];exact Or.inr ⟨e,h0⟩
 next hn=>
 rcases N9.1 h with rfl|h
 ·exact Or.inl ⟨rfl,rfl,Or.inl rfl⟩
 exact Or.inr ⟨λe=>hn (List.mem_map.2 ⟨m,h,e⟩),h⟩
theorem NA(h:bY (aZ L))(hx:x∈aZ (jV n t L)):lX (jV n t L) x=if x=n then t else lX L x:=by
 have hr:bY (aZ (jV n t L)):=by rw [mN h];exact h.jk
 obtain⟨m,hm,rfl⟩:=List.mem_map.1 hx;unfold lX;rw [mj hr hm]
 rcases uM hm with⟨a,b,c⟩|⟨a,b⟩
 ·rw [if_pos a];simpa using b
 rw [if_neg a,mj h b]
theorem GO(x:Md)(hx:x.obj=none)(L:List Md):haves (xI x L)=haves L:=by
 induction L with
 |nil=>simp [xI,haves,hx]
 |cons y r ih=>
  unfold xI
  split
  ·simp [haves,hx]
  ·simp only [haves,List.filter_cons]at*
   split
   ·simp only [List.map_cons];rw [ih]
   ·exact ih
theorem GP(n:Nm)(t:List UInt8)(L:List Md):haves (jV n t L)=haves L:=by
 unfold jV
 split
 ·unfold haves
  rw [List.filter_map,List.map_map]
  have e1:(L.filter ((λm:Md=>m.obj.isSome)∘λm=>if m.ag=n then {m with now:=t}else m))=L.filter λm=>m.obj.isSome:=by
   refine List.filter_congr λm _=> ?_
   show(if m.ag=n then({m with now:=t}:Md)else m).obj.isSome=_
   split<;>rfl
  rw [e1]
  refine List.map_congr_left λm _=> ?_
  show(if m.ag=n then({m with now:=t}:Md)else m).ag=m.ag
  split<;>rfl
 exact GO _ rfl _
theorem GQ(n:Nm)(L:List Md):haves (oy n L)=(haves L).filter λx=> !(x==n):=by
 unfold oy haves;rw [List.filter_map,List.filter_filter,List.filter_filter]
 congr 1
 refine List.filter_congr λm _=> ?_
 show(m.obj.isSome&& !(m.ag==n))=(!(m.ag==n)&&m.obj.isSome);exact Bool.and_comm _ _
theorem uN(h:m∈oy n L):m∈L/\m.ag≠n:=by
 unfold oy at h;obtain⟨a,b⟩:=List.mem_filter.1 h;exact⟨a,by simpa using b⟩
theorem NB(h:bY (aZ L))(hx:x∈aZ (oy n L)):lX (oy n L) x=lX L x:=by
 have hr:bY (aZ (oy n L)):=by rw [tQ];exact List.Pairwise.sublist List.filter_sublist h
 obtain⟨m,hm,rfl⟩:=List.mem_map.1 hx;unfold lX;rw [mj hr hm,mj h (uN hm).1]
theorem oX(h:n∈haves L):∃m∈L,m.ag=n/\m.obj.isSome=true:=by
 obtain⟨m,hm,rfl⟩:=List.mem_map.1 h;obtain⟨a,b⟩:=List.mem_filter.1 hm;exact⟨m,a,rfl,b⟩
theorem j5(h:bY (aZ L))(hm:m∈L):m.ag∈haves L↔m.obj.isSome=true:=by
 constructor
 ·intro hn
  obtain⟨m',h1,h2,h3⟩:=oX hn;have e1:=mj h hm;have e2:=mj h h1;rw [h2,e1]at e2;simp only [Option.some.injEq]at e2;rw [e2];exact h3
 intro hs;exact List.mem_map.2 ⟨m,List.mem_filter.2 ⟨hm,hs⟩,rfl⟩
structure bG (T:Nat->Prop) (w w':World):Prop where
 os:w'.os=w.os
 tape:w'.tape=w.tape
 output:w'.output=w.output
 size:w.heap.size<=w'.heap.size
 block:∀k,k<w.heap.size->¬T k->w'.heap[k]?=w.heap[k]?
theorem bG.refl(T:Nat->Prop)(w:World):bG T w w:=⟨rfl,rfl,rfl,Nat.le_refl _,λ_ _ _=>rfl⟩
theorem bG.trans{b c:World}(h:bG T a b)(k:bG T b c):bG T a c:=
 ⟨k.os.trans h.os,k.tape.trans h.tape,k.output.trans h.output,Nat.le_trans h.size k.size,λi hi hne=>(k.block i (Nat.lt_of_lt_of_le hi h.size) hne).trans (h.block i hi hne)⟩
theorem bG.aW(h:Below w.heap.size w w'):bG T w w':=⟨h.os,h.tape,h.output,h.size,λk hk _=>h.block k hk⟩
theorem bG.mO{r:Option Nat}(h:w.grownBy w' r)(hr:∀k,r=some k->T k\/w.heap.size<=k):bG T w w':=
 ⟨h.os,h.tape,h.output,h.size,λk hk hT=>h.block k hk (λe=>(hr k e.symm).elim hT (λh'=>by omega))⟩
theorem bG.mono{T':Nat->Prop}(h:bG T w w')(hT:∀k,k<w.heap.size->T k->T' k):bG T' w w':=⟨h.os,h.tape,h.output,h.size,λk hk hn=>h.block k hk (λht=>hn (hT k hk ht))⟩
theorem bG.set(h:bG T a w){b:Nat}(hb:T b\/a.heap.size<=b)(o:Nat)(u:Value):bG T a (w.setCell ⟨b,o,none⟩ u):=
 ⟨h.os,h.tape,h.output,by have:=h.size;simp [World.setCell];omega,λk hk hne=>(Below.heap_setCell w ⟨b,o,none⟩ u k (λe=>by
  rcases hb with hb|hb
  ·exact hne (by rw [show k=b from e];exact hb)
  ·have:k=b:=e
   omega)).trans (h.block k hk hne)⟩
def p_(S:Nat->Prop)(w:World)(t:TypeId)(size:Nat)(v:Value)(n:Nat)(xs:List Value):Prop:=w.ownsRow 0 t size v n xs/\∀k,v.ownBlock=some k->S k
theorem p_.keep{t:TypeId}{n:Nat}(h:p_ S w t size v n xs)(hk:∀k,S k->k<w.heap.size->S' k/\w'.heap[k]?=w.heap[k]?):p_ S' w' t size v n xs:=
 ⟨bE h.1 λk e l=>(hk k (h.2 k e) l).2,λk e=>(hk k (h.2 k e) (aG h.1 k e).2).1⟩
theorem p_.of{lo:Nat}{t:TypeId}{n:Nat}(h:w.ownsRow lo t size v n xs)(hS:∀k,v.ownBlock=some k->S k):p_ S w t size v n xs:=⟨cI h (Nat.zero_le _),hS⟩
def eY(f:CF)(pv kv lv:Value):List Value:= [.string ⟨f.mod.toArray⟩,.string ⟨f.ag.toArray⟩,.bool f.gW,pv,.string ⟨f.sig.toArray⟩,.int .i64 f.aee,kv,lv]
structure oz (S:Nat->Prop) (w:World) (f:CF) (pv kv lv:Value):Prop where
 pr:p_ S w 132 1 pv f.ay.length (fT f.ay)
 co:p_ S w 196 2 kv f.aK.length (cX f.aK)
 ca:p_ S w 87 2 lv f.bq.length (fR f.bq)
theorem oz.keep{f:CF}{pv kv lv:Value}(h:oz S w f pv kv lv)(hk:∀k,S k->k<w.heap.size->S' k/\w'.heap[k]?=w.heap[k]?):oz S' w' f pv kv lv:=⟨h.pr.keep hk,h.co.keep hk,h.ca.keep hk⟩
def iC(S:Nat->Prop)(w:World)(xs:List Value)(fs:List CF):Prop:=
 xs.length=fs.length*8/\∀j,(h:j<fs.length)->∃pv kv lv,(xs.drop (j*8)).take 8=eY fs[j] pv kv lv/\oz S w fs[j] pv kv lv
theorem iC.keep(h:iC S w xs fs)(hk:∀k,S k->k<w.heap.size->S' k/\w'.heap[k]?=w.heap[k]?):iC S' w' xs fs:=
 ⟨h.1,λj hj=>by obtain⟨pv,kv,lv,a,b⟩:=h.2 j hj;exact⟨pv,kv,lv,a,b.keep hk⟩⟩
def kt(S:Nat->Prop)(w:World)(v:Value)(fs:List CF):Prop:=∃xs,p_ S w 92 8 v fs.length xs/\iC S w xs fs
theorem kt.keep(h:kt S w v fs)(hk:∀k,S k->k<w.heap.size->S' k/\w'.heap[k]?=w.heap[k]?):kt S' w' v fs:=by
 obtain⟨xs,a,b⟩:=h;exact⟨xs,a.keep hk,b.keep hk⟩
def A9(S:Nat->Prop)(w:World)(v:Value)(o:Ob):Prop:=
 ∃fv uv,v=.agg #[.string ⟨o.aX.toArray⟩,fv,uv]/\kt S w fv o.aR/\p_ S w 185 3 uv o.aeg.length (bo o.aeg)
theorem A9.keep{o:Ob}(h:A9 S w v o)(hk:∀k,S k->k<w.heap.size->S' k/\w'.heap[k]?=w.heap[k]?):A9 S' w' v o:=by
 obtain⟨fv,uv,a,b,c⟩:=h;exact⟨fv,uv,a,b.keep hk,c.keep hk⟩
def Ky(S:Nat->Prop)(w:World)(ip:Option Addr)(im:Option (List CF)):Prop:=
 match im with
 |none=>ip=none
 |some fs=>∃ib fv,ip=some ⟨ib,0,none⟩/\S ib/\w.heap[ib]?=some (.cells #[fv] 95 (0,0))/\kt S w fv fs
theorem Ky.keep{ip:Option Addr}{im:Option (List CF)}(h:Ky S w ip im)(hk:∀k,S k->k<w.heap.size->S' k/\w'.heap[k]?=w.heap[k]?):Ky S' w' ip im:=by
 cases im with
 |none=>exact h
 |some fs=>obtain⟨ib,fv,a,b,c,d⟩:=h;exact⟨ib,fv,a,(hk ib b (af c)).1,(hk ib b (af c)).2.trans c,d.keep hk⟩
structure SP where
 sb:Nat
 mb:Nat
 ob:Nat
 cb:Nat
 ex:Nat->Prop
variable{p:SP}
def SP.own(p:SP)(k:Nat):Prop:=k=p.sb\/k=p.mb\/k=p.ob\/k=p.cb
def SP.o(p:SP)(k:Nat):Prop:=p.own k\/p.ex k
structure qb where
 L:List Md
 comp:List Nm
 vX:Option (List CF)
variable{s:qb}
def tR(L:List Md)(n:Nm):Value:=.agg #[.string ⟨(lX L n).toArray⟩]
structure cx (w:World) (p:SP) (s:qb):Prop where
 blk:∃ip,w.heap[p.sb]?=some (.cells #[.map (some p.mb),.map (some p.ob),.map (some p.cb),.pointer ip] 84 (0,0))/\Ky (λk=>¬p.o k) w ip s.vX
 g_:cV prog w 9 p.mb (aZ s.L) (tR s.L)
 mP:∃ov,cV prog w 9 p.ob (haves s.L) ov/\∀m∈s.L,∀o,m.obj=some o->A9 (λk=>¬p.o k) w (ov m.ag) o
 comp:cV prog w 9 p.cb s.comp (λ_=> .agg #[])
 n1:p.mb≠p.ob
 n2:p.mb≠p.cb
 n3:p.ob≠p.cb
 ku:s.L.length<=8/\s.comp.length<=8
 small:∀m∈s.L,m.ag.length<=8/\m.now.length<=600
theorem lL:Maps.Keyed prog 9:=Maps.string_keyed underlying9
theorem cx.rising(h:cx w p s):bY (aZ s.L):=h.g_.rising lL
theorem cx.yM(h:cx w p s):p.sb≠p.mb/\p.sb≠p.ob/\p.sb≠p.cb:=by
 obtain⟨ip,hb,_⟩:=h.blk;obtain⟨ov,ho,_⟩:=h.mP;obtain⟨_,_,a⟩:=h.g_.isMap;obtain⟨_,_,b⟩:=ho.isMap;obtain⟨_,_,c⟩:=h.comp.isMap;refine⟨λe=> ?_,λe=> ?_,λe=> ?_⟩
 ·rw [e,a]at hb;cases hb
 ·rw [e,b]at hb;cases hb
 rw [e,c]at hb;cases hb
theorem cx.lt(h:cx w p s){k:Nat}(hk:p.own k):k<w.heap.size:=by
 obtain⟨ip,hb,_⟩:=h.blk;obtain⟨ov,ho,_⟩:=h.mP
 rcases hk with rfl|rfl|rfl|rfl
 ·exact af hb
 ·exact h.g_.lt
 ·exact ho.lt
 exact h.comp.lt
theorem cx.keep(h:cx w p s)(hk:∀k,k<w.heap.size->w'.heap[k]?=w.heap[k]?):cx w' p s where
 blk:=by obtain⟨ip,a,b⟩:=h.blk;exact⟨ip,(hk _ (af a)).trans a,b.keep λk h1 h2=>⟨h1,hk k h2⟩⟩
 g_:=h.g_.keep (hk _ h.g_.lt)
 mP:=by obtain⟨ov,a,b⟩:=h.mP;exact⟨ov,a.keep (hk _ a.lt),λm hm o ho=>(b m hm o ho).keep λk h1 h2=>⟨h1,hk k h2⟩⟩
 comp:=h.comp.keep (hk _ h.comp.lt)
 n1:=h.n1
 n2:=h.n2
 n3:=h.n3
 ku:=h.ku
 small:=h.small
theorem cx.Bj(h:cx w p s)(hno:∀k,p.own k->¬p.ex k)(hk:∀k,k<w.heap.size->¬p.ex k->w'.heap[k]?=w.heap[k]?):cx w' p s where
 blk:=by obtain⟨ip,a,b⟩:=h.blk;exact⟨ip,(hk _ (af a) (hno _ (Or.inl rfl))).trans a,b.keep λk h1 h2=>⟨h1,hk k h2 (λe=>h1 (Or.inr e))⟩⟩
 g_:=h.g_.keep (hk _ h.g_.lt (hno _ (Or.inr (Or.inl rfl))))
 mP:=by obtain⟨ov,a,b⟩:=h.mP;exact⟨ov,a.keep (hk _ a.lt (hno _ (Or.inr (Or.inr (Or.inl rfl))))),λm hm o ho=>(b m hm o ho).keep λk h1 h2=>⟨h1,hk k h2 (λe=>h1 (Or.inr e))⟩⟩
 comp:=h.comp.keep (hk _ h.comp.lt (hno _ (Or.inr (Or.inr (Or.inr rfl)))))
 n1:=h.n1
 n2:=h.n2
 n3:=h.n3
 ku:=h.ku
 small:=h.small
theorem cx.more{p:SP}(h:cx w p s)(ex:Nat->Prop)(hx:∀k,k<w.heap.size->ex k->p.o k):cx w {p with ex:=ex} s where
 blk:=by obtain⟨ip,a,b⟩:=h.blk;exact⟨ip,a,b.keep λk h1 h2=>⟨λho=>ho.elim (λq=>h1 (Or.inl q)) (λq=>h1 (hx k h2 q)),rfl⟩⟩
 g_:=h.g_
 mP:=by obtain⟨ov,a,b⟩:=h.mP;exact⟨ov,a,λm hm o ho=>(b m hm o ho).keep λk h1 h2=>⟨λho=>ho.elim (λq=>h1 (Or.inl q)) (λq=>h1 (hx k h2 q)),rfl⟩⟩
 comp:=h.comp
 n1:=h.n1
 n2:=h.n2
 n3:=h.n3
 ku:=h.ku
 small:=h.small
theorem cx.below(h:cx w p s)(hb:Below w.heap.size w w'):cx w' p s:=h.keep λk hk=>hb.block k hk
theorem nV(h:n.length<=maxLen):keyOf prog 9 (.string ⟨n.toArray⟩)=some (.string n):=Go.WideMaps.keyOf_string_mk underlying9 (s:=⟨n.toArray⟩) (by show n.toArray.size<=maxLen;simpa using h)
theorem gI:prog.underlying 79=some (.map 9 129):=underlying79
theorem uO:prog.underlying 80=some (.map 9 154):=underlying80
theorem Ej:prog.underlying 81=some (.map 9 157):=underlying81
theorem yN:prog.underlying 99=some (.map 9 107):=underlying99
theorem cx.field(h:cx w p s):w.cell? ⟨p.sb,0,none⟩=some (.map (some p.mb))/\w.cell? ⟨p.sb,1,none⟩=some (.map (some p.ob))/\w.cell? ⟨p.sb,2,none⟩=some (.map (some p.cb))/\p.sb<w.heap.size:=by
 obtain⟨ip,hb,_⟩:=h.blk
 refine⟨?_,?_,?_,af hb⟩<;>rw [ae hb]<;>rfl
theorem Je(h:cx w p s)(n:Nm)(hn:n.length<=maxLen):
  Calls prog 50 #[.pointer (some ⟨p.sb,0,none⟩),.string ⟨n.toArray⟩] w λe w'=>e=.returned (.bool (decide (n∈aZ s.L)))/\Below w.heap.size w w':=by
 obtain⟨c0,_,_,hl⟩:=h.field;have hrun:=h.g_.Nt lL gI (zeroValue129 w) (nV hn);clear h
 by_cases hm:n∈aZ s.L
 ·rw [if_pos hm]at hrun
  have HD:=aa (show decide (n∈aZ s.L)=true by simpa using hm);rw [HD.o]at hrun⊢;unfold tR at hrun;clear hm
  go_enter func50,ntmps50
  go_wp2;go_ret;exact⟨rfl,(Below.refl _ _).alloc (Nat.le_refl _) _⟩
 rw [if_neg hm]at hrun;have HD:=aa (show decide (n∈aZ s.L)=false by simpa using hm);rw [HD.o]at hrun⊢;clear hm
 go_enter func50,ntmps50
 go_wp2;go_ret;exact⟨rfl,(Below.refl _ _).alloc (Nat.le_refl _) _⟩
def cw(t:List UInt8):Bool:= !(t== [])&&(decide (t.length<=8)&&(bP ((t.headD 0).toNat:Int)&&(aT aS t==t.length&& !bS t)))
theorem GR(s:ByteArray)(w:World):Calls prog 59 #[.string s] w λe w'=>e=.returned (.bool (cw s.data.toList))/\w'=w:=by
 by_cases h0:0<s.size
 ·have hc:=kF s h0
  have hne:¬s.data.toList= []:=by rw [hc];simp
  have hem:s.toList.isEmpty=false:=by rw [ByteArray.toList_eq,hc];rfl
  have NC:¬s.toList= []:=by rw [ByteArray.toList_eq];exact hne
  have rU:s.data.toList.length=s.size:=by simp
  by_cases h8:s.size<=8
  ·have YM:¬(8:Int)<(s.size:Int):=by omega
   have HV:=aa (show cw s.data.toList=(bP (s[0].toNat:Int)&&(aT aS s.data.toList==s.size&& !bS s.data.toList)) by
    unfold cw
    have e1:(s.data.toList==([]:List UInt8))=false:=by simpa using hne
    rw [e1,show decide (s.data.toList.length<=8)=true by rw [rU];simpa using h8,rU,show s.data.toList.headD 0=s[0] by rw [hc];rfl]
    rfl)
   have HR:=aa (mJ s w (by unfold maxLen;omega));have Gm:=jy aS s.data.toList;clear hc;generalize hr:aT aS s.data.toList=r at*
   go_enter func59,ntmps59
   go_wp2_with fail
   refine(jL _ w).mono ?_;rintro e w ⟨rfl,rfl⟩
   rcases hL:bP (s[0].toNat:Int)with _|_
   ·go_wp2
    go_ret;exact⟨bD (by rw [HV.o,hL];rfl),rfl⟩
   ·go_wp2_with fail
    refine HR.o.mono ?_;rintro e w ⟨rfl,rfl⟩
    by_cases hq:r=s.size
    ·have QC:(r:Int)=(s.size:Int):=by omega
     go_wp2_with fail
     refine(sW s _).mono ?_;rintro e w ⟨rfl,rfl⟩;go_wp2;go_ret;exact⟨bD (by rw [HV.o,hL,hq];simp),rfl⟩
    ·have QC:¬(r:Int)=(s.size:Int):=by omega
     go_wp2;go_ret;exact⟨bD (by rw [HV.o,hL,show(r==s.size)=false by simpa using hq];rfl),rfl⟩
  ·have YM:(8:Int)<(s.size:Int):=by omega
   have HV:=aa (show cw s.data.toList=false by
    unfold cw;rw [show decide (s.data.toList.length<=8)=false by rw [rU];simpa using h8]
    simp)
   clear hc
   go_enter func59,ntmps59
   go_wp2;go_ret;exact⟨bD (by rw [HV.o]),rfl⟩
 have hs0:s.size=0:=by omega
 have he:s.data.toList= []:=List.eq_nil_of_length_eq_zero (by rw [show s.data.toList.length=s.size by simp];exact hs0)
 have TG:s.toList= []:=by rw [ByteArray.toList_eq];exact he
 have HV:=aa (show cw s.data.toList=false by rw [he];rfl)
 go_enter func59,ntmps59
 go_wp2;go_ret;exact⟨bD (by rw [HV.o]),rfl⟩
def ig:qb:=⟨[],[],none⟩
theorem Kz(w:World):(Instr.makeMap 79 none).run prog w=.ok (.map (some w.heap.size)) (w.alloc (.map #[] 0)):=by
 simp [Instr.makeMap,go_sem]
theorem K0(w:World):(Instr.makeMap 80 none).run prog w=.ok (.map (some w.heap.size)) (w.alloc (.map #[] 0)):=by
 simp [Instr.makeMap,go_sem]
theorem K4(w:World):(Instr.makeMap 81 none).run prog w=.ok (.map (some w.heap.size)) (w.alloc (.map #[] 0)):=by
 simp [Instr.makeMap,go_sem]
theorem R9(w:World):Calls prog 30 #[] w λe w'=>∃p:SP,e=.returned (.pointer (some ⟨p.sb,0,none⟩))/\Below w.heap.size w w'/\cx w' p ig/\(∀k,p.own k->w.heap.size<=k)/\∀k,¬p.ex k:=by
 have h1:=Kz;have h2:=K0;have h3:=K4
 go_enter func30,ntmps30
 go_wp2;go_ret;refine⟨⟨w.heap.size+1+1+1,w.heap.size,w.heap.size+1,w.heap.size+1+1,λ_=>False⟩,rfl,((((Below.refl _ _).alloc (Nat.le_refl _) _).alloc (by simp) _).alloc (by simp;omega) _).alloc (by simp;omega) _,?_,?_,λ_ h=>h⟩
 ·have a1:∀(w0:World) (o:Obj),(w0.alloc o).heap.size=w0.heap.size+1:=λw0 o=>by simp
  refine⟨⟨none,?_,rfl⟩,?_,⟨λ_=> .agg #[],?_,λm hm=>by cases hm⟩,?_,?_,?_,?_,⟨by simp [ig],by simp [ig]⟩,λm hm=>by cases hm⟩
  ·have:=aF (((w.alloc (.map #[] 0)).alloc (.map #[] 0)).alloc (.map #[] 0)) (.cells #[.map (some w.heap.size),.map (some (w.heap.size+1)),.map (some (w.heap.size+1+1)),.pointer none] 84)
   simp only [a1]at this;exact this
  ·exact(((cV.new prog w 9 _).below ((Below.refl _ _).alloc (Nat.le_refl _) _)).below ((Below.refl _ _).alloc (Nat.le_refl _) _)).below ((Below.refl _ _).alloc (Nat.le_refl _) _)
  ·have:=(((cV.new prog (w.alloc (.map #[] 0)) 9 (λ_=> .agg #[])).below ((Below.refl _ _).alloc (Nat.le_refl _) (.map #[] 0))).below ((Below.refl _ _).alloc (Nat.le_refl _) (.cells #[.map (some w.heap.size),.map (some (w.heap.size+1)),.map (some (w.heap.size+1+1)),.pointer none] 84)))
   simp only [a1]at this;exact this
  ·have:=((cV.new prog ((w.alloc (.map #[] 0)).alloc (.map #[] 0)) 9 (λ_=> .agg #[])).below ((Below.refl _ _).alloc (Nat.le_refl _) (.cells #[.map (some w.heap.size),.map (some (w.heap.size+1)),.map (some (w.heap.size+1+1)),.pointer none] 84)))
   simp only [a1]at this;exact this
  ·show w.heap.size≠w.heap.size+1;omega
  ·show w.heap.size≠w.heap.size+1+1;omega
  ·show w.heap.size+1≠w.heap.size+1+1;omega
 rintro k (rfl|rfl|rfl|rfl)<;>simp only<;>omega
end Go.Proofs.YtpmmjkiclngpmaaGreatDoor
