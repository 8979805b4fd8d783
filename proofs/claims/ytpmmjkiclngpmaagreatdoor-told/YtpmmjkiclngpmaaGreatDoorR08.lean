/- YtpmmjkiclngpmaaGreatDoorR08 -/
import Derived.Test.YtpmmjkiclngpmaaGreatDoorR07
set_option maxRecDepth 100000
set_option linter.unusedSimpArgs false
set_option linter.unusedVariables false
set_option maxHeartbeats 12800000
namespace Go.Proofs.YtpmmjkiclngpmaaGreatDoor
open Tryz
open Go.RowKit
variable{v a b c d:Value}{w w' wr:World}{wb i m:Nat}{tg:Nat->Nat}{S:Nat->Prop}{D:List Dg}{dH:List Nat}{P:List PD}
theorem aaO(l:List Dg)(j:Nat)(hj:j<l.length):(b_ l)[j*3]?=some (.string ⟨l[j].ag.toArray⟩)/\(b_ l)[j*3+1]?=some (.int .i64 l[j].aK)/\(b_ l)[j*3+2]?=some (.int .i64 l[j].ai):=by
 induction l generalizing j with
 |nil=>simp at hj
 |cons x r ih=>
  rw [show b_ (x::r)=.string ⟨x.ag.toArray⟩:: .int .i64 x.aK:: .int .i64 x.ai::b_ r from rfl]
  cases j with
  |zero=>exact⟨rfl,rfl,rfl⟩
  |succ j=>
   have:=ih j (by simpa using hj);rw [show(j+1)*3=j*3+1+1+1 by omega];simpa using this
theorem pJ{b:Nat}{l:List Dg}(h:w.ownsRow b 61 3 v l.length (b_ l))(j:Nat)(hj:j<l.length):
  ∃g cap,v=.slice (some ⟨g,0,none⟩) l.length cap/\g<w.heap.size/\w.cell? ⟨g,j*3,none⟩=some (.string ⟨l[j].ag.toArray⟩)/\w.cell? ⟨g,j*3+1,none⟩=some (.int .i64 l[j].aK)/\w.cell? ⟨g,j*3+2,none⟩=some (.int .i64 l[j].ai):=by
 rcases bZ h with⟨rfl,h0⟩|⟨g,cap,rfl,hb,hlt,gO,hc,he⟩
 ·omega
 have:=aaO l j hj;exact⟨g,cap,rfl,hlt,(hc _ (by omega)).trans this.1,(hc _ (by omega)).trans this.2.1,(hc _ (by omega)).trans this.2.2⟩
theorem Gb{t:TypeId}(h:w.heap[wb]?=some (.cells #[a,b,.bool false,c,d] t (0,0)))(p:Addr):(w.setCell ⟨wb,2,none⟩ (.bool false)).drew.cell? p=w.cell? p:=by
 refine World.cell?_of_block (w:=w) ?_;show(w.setCell ⟨wb,2,none⟩ (.bool false)).heap[p.block]?=_
 by_cases e:p.block=wb
 ·rw [e,ax h 2 (.bool false),h];rfl
 exact Below.heap_setCell _ _ _ _ e
theorem Gc{t:TypeId}(h:w.heap[wb]?=some (.cells #[a,b,.bool false,c,d] t (0,0)))(n:Nat):Below w.heap.size w ((w.drewN n).setCell ⟨wb,2,none⟩ (.bool false)):=by
 have h':(w.drewN n).heap[wb]?=some (.cells #[a,b,.bool false,c,d] t (0,0)):=h;refine⟨rfl,rfl,rfl,by simp [World.setCell],λk _=> ?_⟩
 by_cases e:k=wb
 ·subst e
  rw [ax h' 2 (.bool false),h];rfl
 exact Below.heap_setCell _ _ _ _ e
theorem aaP(l:List Dg):∀u∈b_ l,u.oneCell'=true:=by
 intro u hu;unfold b_ at hu;rw [List.mem_flatMap]at hu;obtain⟨d,_,hd⟩:=hu;simp only [List.mem_cons,List.not_mem_nil,or_false]at hd
 rcases hd with rfl|rfl|rfl<;>rfl
theorem jw.aaQ{jv:Nat->Nat}{t:Nat}{X:Nat->Prop}{d:PD}(h:jw tg t w d)(hb:bG X w w')(hX:∀k,k<w.heap.size->X k->tg k≠0/\tg k≠t)(h0:∀k,k<w.heap.size->(jv k=0↔tg k=0))(ht:∀k,k<w.heap.size->tg k=t->jv k=t):jw jv t w' d:=by
 have hl:=af h.blk
 have h1:cx w {d.p with ex:=λk=>jv k≠0/\¬d.p.own k} d.s:=h.st.more (λk=>jv k≠0/\¬d.p.own k) λk hk e=>Or.inr ⟨λq=>e.1 ((h0 k hk).mpr q),e.2⟩
 exact⟨ht _ hl h.Qu,(hb.block _ hl λe=>(hX _ hl e).2 h.Qu).trans h.blk,h.lsh,h1.Bj (λk hk e=>e.2 hk) λk hk hn=>hb.block k hk λe=>hn ⟨λq=>(hX k hk e).1 ((h0 k hk).mp q),λho=>(hX k hk e).2 (h.own k ho)⟩,λk hk=>ht k (h.lt hk) (h.own k hk),h.made,h.ref.keep λk a b=>⟨ht k b a,hb.block k b λe=>(hX k b e).2 a⟩⟩
def IP(w:World)(k:Nat):Prop:=∀c f,w.heap[k]?≠some (.cells c 126 f)
theorem IP.cells{k:Nat}{c:Array Value}{t:TypeId}{f:Nat×Nat}(h:w.heap[k]?=some (.cells c t f))(ht:t≠126):IP w k:=λc' f' e=>by
 rw [h]at e
 injection e with e
 injection e with _ e _
 exact ht e
theorem cW.Ds{t:TypeId}{size n:Nat}{xs:List Value}(h:cW S w t size v n xs)(ht:t≠126):cW (λk=>S k/\IP w k) w t size v n xs:=
 ⟨h.1,λg e=>⟨h.2 g e,by
  rcases h.1.2 with⟨rfl,_⟩|⟨g',cap,aU,rfl,_,hc,_⟩
  ·simp [Value.ownBlock]at e
  ·simp [Value.ownBlock]at e
   subst e
   exact IP.cells hc ht⟩⟩
theorem G3.Ds{t te:TypeId}{cs:List Value}{vs:List Value}(h:G3 S w t te cs v vs)(ht:t≠126)(hte:te≠126):G3 (λk=>S k/\IP w k) w t te cs v vs:=
 ⟨h.1.Ds ht,λu hu=>by obtain⟨m,a,b⟩:=h.2 u hu;exact⟨m,a,b.Ds hte⟩⟩
theorem vG.Ds{hb:Nat}(h:vG S w hb):vG (λk=>S k/\IP w k) w hb:=by
 obtain⟨hs,mk,n,tv,uv,xv,nv,a,⟨v0,b⟩,⟨v1,c⟩,⟨v2,d⟩,⟨v3,e⟩⟩:=h;exact⟨⟨hs,IP.cells a (by decide)⟩,mk,n,tv,uv,xv,nv,a,⟨v0,b.Ds (by decide) (by decide)⟩,⟨v1,c.Ds (by decide) (by decide)⟩,⟨v2,d.Ds (by decide) (by decide)⟩,⟨v3,e.Ds (by decide) (by decide)⟩⟩
theorem IQ{w3 w4 w5:World}{Q:List PD}{PB:List Dg}{pv hv tv av dv ov:Value}{e:Ending}(h:pI tg w wb Q dH D)(hw:w.heap[wb]?=some (.cells #[pv,hv,.bool false,tv,av] 71 (0,0)))(hd:cW (λk=>tg k=5+Q.length) w 61 3 dv PB.length (b_ PB))(hb3:Below w.heap.size w w3)(ho3:w3.ownsRow w.heap.size 61 3 ov PB.length (b_ PB))(hk:Qp (λk=>tv.ownBlock=some k\/w3.heap.size<=k) (λk=>k=wb\/hv.ownBlock=some k\/tv.ownBlock=some k) wb 0 pv false tv av (qI dH) hv.ownBlock w3 e w4)(cZ:Below w4.heap.size w4 w5):
  ∃jv hb,pI jv ((w5.setCell ⟨wb,4,none⟩ ov).setCell ⟨wb,3,none⟩ dv) wb Q (dH++ [hb]) PB/\Fz tg w jv ((w5.setCell ⟨wb,4,none⟩ ov).setCell ⟨wb,3,none⟩ dv):=by
 obtain⟨hb,ho,hc,rfl,XA,XB,Tt,hH,mF⟩:=hk;obtain⟨pv0,hv0,tv0,av0,a0,rp,rh,rt,ra⟩:=h.mem;rw [hw]at a0
 injection a0 with a0
 injection a0 with a0 _ _
 simp only [Array.mk.injEq,List.cons.injEq,and_true]at a0;obtain⟨rfl,rfl,_,rfl,rfl⟩:=a0;have DA:=af hw;have s3:=hb3.size;have s4:=mF.size;have s5:=cZ.size;obtain⟨hv',VY⟩:∃v,v=Value.slice ho ((qI dH).length+1) hc:=⟨_,rfl⟩;rw [<-VY]at XA XB Tt
 have hhl:∀k,hv.ownBlock=some k->tg k=1/\k<w.heap.size:=λk q=>⟨rh.2 k q,(aQ rh.1 k q).2⟩
 have ye:∀k,tv.ownBlock=some k->tg k=2/\k<w.heap.size:=λk q=>⟨rt.2 k q,(aQ rt.1 k q).2⟩
 have N2:∀k,dv.ownBlock=some k->tg k=5+Q.length/\k<w.heap.size:=λk q=>⟨hd.2 k q,(aQ hd.1 k q).2⟩
 have RT:∀k,ov.ownBlock=some k->w.heap.size<=k/\k<w3.heap.size:=λk q=>aQ ho3 k q
 have M4:∀k,hv'.ownBlock=some k->(tg k=1/\k<w.heap.size)\/w3.heap.size<=k:=λk q=>(Tt k q).imp (hhl k) id
 obtain⟨w',hw'⟩:∃y,y=(w5.setCell ⟨wb,4,none⟩ ov).setCell ⟨wb,3,none⟩ dv:=⟨_,rfl⟩;rw [<-hw']
 have k5:∀k,k<w4.heap.size->k≠wb->w'.heap[k]?=w4.heap[k]?:=λk h1 h2=>by
  rw [hw'];exact(Below.heap_setCell _ _ _ _ h2).trans ((Below.heap_setCell _ _ _ _ h2).trans (cZ.block k h1))
 obtain⟨X,JW⟩:∃X:Nat->Prop,X=λk=>k=wb\/hv.ownBlock=some k\/tv.ownBlock=some k:=⟨_,rfl⟩
 rw [<-JW]at mF
 have hX:∀k,X k->(tg k=1\/tg k=2):=λk q=>by
  rw [JW]at q
  rcases q with rfl|q|q
  ·exact Or.inl h.MJ
  ·exact Or.inl (hhl k q).1
  ·exact Or.inr (ye k q).1
 have hXw:X wb:=by rw [JW];exact Or.inl rfl
 have k3:∀k,k<w3.heap.size->¬X k->w'.heap[k]?=w3.heap[k]?:=λk h1 h2=>(k5 k (by omega) (λq=>h2 (q▸hXw))).trans (mF.block k h1 h2)
 have k0:∀k,k<w.heap.size->¬X k->w'.heap[k]?=w.heap[k]?:=λk h1 h2=>(k3 k (by omega) h2).trans (hb3.block k h1)
 have qg:bG X w w':=by
  rw [hw'];have q:bG X w w5:=⟨cZ.os.trans (mF.os.trans hb3.os),cZ.tape.trans (mF.tape.trans hb3.tape),cZ.output.trans (mF.output.trans hb3.output),by omega,λk h1 h2=>(cZ.block k (by omega)).trans ((mF.block k (by omega) h2).trans (hb3.block k h1))⟩;exact(q.set (b:=wb) (Or.inl hXw) _ _).set (b:=wb) (Or.inl hXw) _ _
 obtain⟨jv,Qw⟩:∃jv:Nat->Nat,jv=λk=>if tv.ownBlock=some k then 3 else if dv.ownBlock=some k then 2 else if k<w.heap.size then tg k else if ov.ownBlock=some k then 4 else if hv'.ownBlock=some k then 1 else 3:=⟨_,rfl⟩
 have tT:∀k,tv.ownBlock=some k->jv k=3:=λk q=>by rw [Qw];exact if_pos q
 have tD:∀k,dv.ownBlock=some k->jv k=2:=λk q=>by
  rw [Qw];show(if tv.ownBlock=some k then 3 else _)=_;rw [if_neg (λr=>by have:=(ye k r).1;have:=(N2 k q).1;omega),if_pos q]
 have oI:∀k,k<w.heap.size->tv.ownBlock≠some k->dv.ownBlock≠some k->jv k=tg k:=λk h1 h2 h3=>by
  rw [Qw];show(if tv.ownBlock=some k then 3 else if dv.ownBlock=some k then 2 else _)=_;rw [if_neg h2,if_neg h3,if_pos h1]
 have AV:∀k,w.heap.size<=k->jv k=if ov.ownBlock=some k then 4 else if hv'.ownBlock=some k then 1 else 3:=λk h1=>by
  rw [Qw];show(if tv.ownBlock=some k then 3 else if dv.ownBlock=some k then 2 else if k<w.heap.size then _ else _)=_;rw [if_neg (λr=>by have:=(ye k r).2;omega),if_neg (λr=>by have:=(N2 k r).2;omega),if_neg (by omega)]
 have Gd:∀k,k<w.heap.size->tg k≠2->tg k≠5+Q.length->jv k=tg k:=λk h1 h2 h3=>oI k h1 (λq=>h2 (ye k q).1) (λq=>h3 (N2 k q).1)
 have lD:∀(t:Nat),t≠1->t≠2->t≠5+Q.length->∀k,tg k=t->k<w.heap.size->jv k=t/\w'.heap[k]?=w.heap[k]?:=λt h1 h2 h3 k a b=>⟨by rw [Gd k b (by omega) (by omega)];exact a,k0 k b λq=>by have:=hX k q;omega⟩
 have w5b:w5.heap[wb]?=some (.cells #[pv,hv',.bool false,tv,av] 71 (0,0)):=(cZ.block _ (by omega)).trans XA
 have X9:w'.heap[wb]?=some (.cells #[pv,hv',.bool false,dv,ov] 71 (0,0)):=by
  rw [hw'];exact ax (ax w5b 4 ov) 3 dv
 have h0:∀k,k<w.heap.size->(jv k=0↔tg k=0):=λk hk=>by
  by_cases q1:tv.ownBlock=some k
  ·have:=tT k q1;have:=(ye k q1).1;omega
  ·by_cases q2:dv.ownBlock=some k
   ·have:=tD k q2;have:=(N2 k q2).1;omega
   ·rw [oI k hk q1 q2]
 refine⟨jv,hb,⟨⟨pv,hv',dv,ov,X9,?_,?_,?_,?_⟩,?_,?_,?_⟩,Fz.but qg (λk _ q=>by have:=hX k q;omega) (λk hk q=>(h0 k hk).mpr q)⟩
 ·refine⟨aM rp.1 λk q=>k0 k (aQ rp.1 k q).2 λr=> ?_,λk q=> ?_⟩
  ·rw [JW]at r
   rcases r with rfl|r|r
   ·exact qu rp.1 hw (by decide) q
   ·exact vx rp.1 rh.1 (by decide) k q r
   ·exact vx rp.1 rt.1 (by decide) k q r
  ·show jv k=1
   have:=rp.2 k q;rw [Gd k (aQ rp.1 k q).2 (by omega) (by omega)];exact this
 ·have e1:hv'.ownBlock≠some wb:=qu XB XA (by decide)
  refine⟨?_,λk q=> ?_⟩
  ·rw [List.length_append,show qI (dH++ [hb])=qI dH++ [.pointer (some ⟨hb,0,none⟩)] by simp]
   have hR':w4.ownsRow 0 126 1 hv' (dH.length+ [hb].length) (qI dH++ [.pointer (some ⟨hb,0,none⟩)]):=by simpa using XB
   exact aM hR' λk q=>k5 k (aQ XB k q).2 λr=>e1 (r▸q)
  ·show jv k=1
   rcases M4 k q with r|r
   ·rw [Gd k r.2 (by omega) (by omega)];exact r.1
   ·rw [AV k (by omega),if_neg (λz=>by have:=(RT k z).2;omega),if_pos q]
 ·refine⟨aM hd.1 λk q=>k0 k (aQ hd.1 k q).2 λr=> ?_,λk q=>tD k q⟩
  have:=hX k r;have:=(N2 k q).1;omega
 ·refine⟨cI (aM ho3 λk q=>k3 k (RT k q).2 λr=> ?_) (Nat.zero_le _),λk q=> ?_⟩
  ·have h1:=(RT k q).1
   rw [JW]at r
   rcases r with rfl|r|r
   ·omega
   ·have:=(hhl k r).2;omega
   ·have:=(ye k r).2;omega
  ·show jv k=4
   rw [AV k (RT k q).1,if_pos q]
 ·have:=h.MJ
  rw [Gd _ DA (by omega) (by omega)];exact this
 ·intro i hi
  refine(h.kE i hi).aaQ qg (λk _ q=>by have:=hX k q;omega) h0 (λk hk q=>by rw [Gd k hk (by omega) (by omega)];exact q)
 intro x hx
 rcases List.mem_append.mp hx with hx|hx
 ·exact(h.holds x hx).keep (lD 3 (by omega) (by omega) (by omega))
 rw [List.mem_singleton]at hx;subst hx
 refine hH.Ds.keep λk q hk=> ?_
 have L1:k≠wb:=λr=>by
  rcases q.1 with z|z
  ·have h1:=(ye k z).1;have h2:=h.MJ;rw [<-r]at h2;omega
  ·omega
 refine⟨?_,k5 k hk L1⟩
 rcases q.1 with z|z
 ·exact tT k z
 show jv k=3;rw [AV k (by omega),if_neg (λy=>by have:=(RT k y).2;omega),if_neg (λy=> ?_)]
 rcases XB.2 with⟨hz,_⟩|⟨g',cap,aU,hz,_,hcb,_⟩
 ·rw [hz]at y;simp [Value.ownBlock]at y
 rw [hz]at y;simp [Value.ownBlock]at y;subst y;exact q.2 _ _ hcb
def Tv(tg:Nat->Nat)(w:World)(wb:Nat)(P:List PD)(i:Nat)(d:PD)(dH:List Nat)(e:Ending)(w':World):Prop:=∃jv hb lv,e=.returned (.bool true)/\pI jv w' wb (P.set i {d with s:=(bz d.s).2,Lb:=d.s.L,lv:=lv}) (dH++ [hb]) (bz d.s).1/\Fz tg w jv w'
theorem IU(h:pI tg w wb P dH D)(hi:i<P.length)(hl:dH.length<=10000000000000)(hD:D.length<=8):
  Calls prog 53 #[.pointer (some ⟨wb,0,none⟩),.pointer (some ⟨P[i].pb,0,none⟩)] w (Tv tg w wb P i P[i] dH):=by
 have hp:=h.kE i hi;have c0:=ae hp.blk 0;have c1:=ae hp.blk 1;have cl:=af hp.blk;simp at c0 c1;have J5:=aa (IM h hi);have qD:=aa hp.blk
 have hP8:(bz P[i].s).1.length<=8:=by
  have h1:=hp.st.ku.1;have:(bz P[i].s).1.length<=P[i].s.L.length:=nj;omega
 generalize hdd:P[i]=d at*;have HDd:=aa hdd;clear h hp hdd
 go_enter func53,ntmps53
 go_wp2_with fail
 refine J5.o.mono ?_;rintro e w1 ⟨dv,rfl,aeb,aaR,GL,hck⟩;obtain⟨dO,dc,hdv⟩:=ak GL;subst hdv;have qF:=aa hck;have k1:=aaR.trans qD.o;have e1:=ae k1 1;have el:=af k1;simp at e1;clear hck aaR k1 c0 c1 cl J5
 go_wp2_with fail
 refine qF.o.mono ?_;rintro e w2 ⟨bv,xU,rfl,hW2,aaS,aaT,XC⟩;have acM:=aa aaS;obtain⟨bO,bc,acN⟩:=ak XC.1;subst acN;have th:=aa hW2;have R6:=aa aaT;have cU:=aa XC
 have Cw:i<(P.set i {d with s:=(bz d.s).2,Lb:=d.s.L}).length:=by rw [List.length_set];exact hi
 have Gi:=hW2.kE i Cw;rw [List.getElem_set_self]at Gi;have f1:=ae Gi.blk 1;have f2:=ae Gi.blk 2;have fl:=af Gi.blk;have ff:=aj Gi.blk;simp at f1 f2;obtain⟨l,lo,lc,kv,iv,hb,hT,hL,ms,_⟩:=Gi.ref.cells;obtain⟨xs,hrow,kV⟩:=hT.cellsIn;have r0:=ae hb 0;have rl:=af hb;simp at r0;have xQ:=aa hrow;have oM:=aa kV
 have rU:l.length<=8:=by rw [hL.1];exact Gi.st.ku.1
 clear hW2 aaS aaT XC Gi hb hT hL qF GL e1 el hrow kV
 go_upto_region 4 with fail
 obtain⟨PB,hPB⟩:∃l,l=(bz d.s).1:=⟨_,rfl⟩;rw [<-hPB]at R6 cU hP8;have HPB:=aa hPB
 have Qy:=aa (λ(w3:World) (hb3:Below w2.heap.size w2 w3) (o:Option Addr) (m c:Nat)=>(show pI xU (w3.setCell ⟨d.pb,2,none⟩ (.slice o m c)) wb (P.set i {d with s:=(bz d.s).2,Lb:=d.s.L,lv:=.slice o m c}) dH D/\cW (λk=>xU k=5+P.length) (w3.setCell ⟨d.pb,2,none⟩ (.slice o m c)) 61 3 (.slice dO PB.length dc) PB.length (b_ PB)/\cW (λk=>xU k=5+i) (w3.setCell ⟨d.pb,2,none⟩ (.slice o m c)) 61 3 (.slice bO PB.length bc) PB.length (b_ PB)/\Fz tg w xU (w3.setCell ⟨d.pb,2,none⟩ (.slice o m c)) by
  have h3:=th.o.below hb3;have h4:=h3.last Cw o m c;have TZ:=h3.kE i Cw;rw [List.getElem_set_self]at TZ;simp only [List.getElem_set_self,List.set_set]at h4
  exact⟨h4,(R6.o.keep λk a b=>⟨a,hb3.block k b⟩).set TZ.blk (by decide) _ _,(cU.o.keep λk a b=>⟨a,hb3.block k b⟩).set TZ.blk (by decide) _ _,(acM.o.trans (Fz.below hb3)).trans (Fz.set (by have q:xU d.pb=5+i:=TZ.Qu;omega) _ _)⟩))
 rw [<-hPB];clear hPB
 go_cut [] (λwx=>∃Ap,Hy (pI xU wx wb (P.set i {d with s:=(bz d.s).2,Lb:=d.s.L,lv:=Ap}) dH D)/\Hy (cW (λk=>xU k=5+P.length) wx 61 3 (.slice dO PB.length dc) PB.length (b_ PB))/\Hy (cW (λk=>xU k=5+i) wx 61 3 (.slice bO PB.length bc) PB.length (b_ PB))/\Hy (Fz tg w xU wx))
 case first=>
  rcases bZ xQ.o.1 with⟨hv,QI⟩|⟨g,cap,hv,_,eP,_,_,_⟩
  ·injection hv with v1 v2 v3
   subst v1 v3;have hle:l= []:=List.eq_nil_of_length_eq_zero QI;subst hle;have HF:=aa (Qy.o w2 (Below.refl _ _) none 0 0);clear xQ oM Qy v2 QI
   go_wp2_with fail
   go_meet
   exact⟨_,aa HF.o.1,aa HF.o.2.1,aa HF.o.2.2.1,aa HF.o.2.2.2⟩
  ·injection hv with v1 v2 v3
   subst v1 v3;have kp:=aa oM.o.yr;have Xw:=aa (show ∀j u,xs[j]?=some u->w2.cell? ((⟨g,0,none⟩:Addr).add j)=some u by have:=nD xQ.o 0;rw [List.drop_zero]at this;exact this);have HXl:=aa oM.o.1
   have b1:0+l.length<=maxLen:=by unfold maxLen;omega
   have b2:(0+l.length)*80<=140737488355328:=by omega
   clear v2;obtain⟨i0,nW,hz0,hz1,hz2⟩:=info_parts sB
   go_wp2_with (at_builtin;refine mB _ rfl _ _ 118 rfl w2.heap.size 169 i0 (.agg #[.string ⟨#[]⟩,.string ⟨#[]⟩,.bool false,.string ⟨#[]⟩,.slice none 0 0]) 5 80 underlying118 nW hz0 hz1 hz2 rfl (by decide) (.slice none 0 0) 0 [] rfl (World.ownsRow_nil _ _ _ _) ⟨g,0,none⟩ l.length lc xs rfl HXl.o Xw.o kp.o b1 b2 (Nat.le_refl _) ?_)
   intro o1 c1 w3 hown aB aJ;have hb3:Below w2.heap.size w2 w3:=dF aB (λk e=>by simp [Value.ownBlock]at e) (Nat.le_refl _);have HF:=aa (Qy.o w3 hb3 o1 l.length c1);have g2:=(hb3.cell (p:=⟨d.pb,2,none⟩) fl).trans f2
   have gl:d.pb<w3.heap.size:=by have:=hb3.size;omega
   have gf:∀o,w3.frozen? ⟨d.pb,o,none⟩=false:=λo=>(hb3.frozen (p:=⟨d.pb,o,none⟩) fl).trans (ff o)
   clear hown aB aJ hb3 nW hz0 hz1 hz2 Qy
   go_wp2_with fail
   go_meet
   exact⟨_,aa HF.o.1,aa HF.o.2.1,aa HF.o.2.2.1,aa HF.o.2.2.2⟩
 obtain⟨Ap,HWx,HDx,lF,HFx⟩:=hcut;clear Qy xQ oM th R6 cU r0 rl f1 f2 fl ff rU;obtain⟨wx,hwx⟩:∃y,y=wc:=⟨_,rfl⟩;subst hwx;obtain⟨pv,hv,tv,av,hw,_,hhr,Hg,har⟩:=HWx.o.mem;obtain⟨tO,tc,htv⟩:=ak Hg.1;subst htv;obtain⟨aO,ac,Uq⟩:=ak har.1;subst Uq;have aaU:=af hw;have HWb:=aa hw;have HHr:=aa hhr;have B1:=aa Hg;have Al:=aa har;clear hw hhr Hg har;go_wp2
 go_loopg [8,9] PB.length (λnn v8 v9 wr=>∃j:Nat,nn+j=PB.length/\v8=.bool true/\v9=.int .i64 j/\Hy (Below wx.heap.size wx wr))
 case atStart=>exact⟨0,by omega,by first|rfl|simp,rfl,aa (Below.refl _ _)⟩
 obtain⟨j,hj,rfl,rfl,HB⟩:=hrel
 by_cases hlt:j<PB.length
 ·have eu:(j:Int)<(PB.length:Int):=by omega
  have SZ:(j:Int)+1<=9223372036854775807:=by omega
  obtain⟨ga,ca,hva,QG,a0,a1,a2⟩:=pJ (aM HDx.o.1 λk e=>HB.o.block k (aQ HDx.o.1 k e).2) j hlt
  injection hva with v1 v2 v3
  subst v1 v3;clear v2;obtain⟨gb,cb,XZ,hgb,b0,b1,b2⟩:=pJ (aM lF.o.1 λk e=>HB.o.block k (aQ lF.o.1 k e).2) j hlt
  injection XZ with v1 v2 v3
  subst v1 v3;generalize PB[j]=x at*
  have heq:=λw=>ve x x w
  rw [show tz x x=true by simp [tz]]at heq
  have hgd:=λop a b w=>vg op a b x x w
  simp only [E']at heq hgd;have Mp:=aa hj;clear v2 hj
  go_wp2_with fail
  go_quiet (fail)
  have qd:=aa (HB.o.trans (bA wr nq|>.mono HB.o.size));go_wp2
  go_roundg (gk-1)
  case measure=>have:=Mp.o;omega
  case rel=>exact⟨j+1,by have:=Mp.o;omega,rfl,by go_num,qd⟩
 have eu:¬(j:Int)<(PB.length:Int):=by omega
 have HHB:=aa HB.o;clear hj hlt;go_wp2
 go_loopg [10] D.length (λnn v10 wr=>∃j:Nat,nn+j=D.length/\v10=.int .i64 j/\Hy (Below wx.heap.size wx wr))
 case atStart=>exact⟨0,by omega,rfl,HHB⟩
 obtain⟨j2,LB,rfl,cU⟩:=hrel;have hwr:=(cU.o.block _ aaU).trans HWb.o;have c2:=ae hwr 2;have c3:=ae hwr 3;have c4:=ae hwr 4;have cl:=af hwr;have cf:=aj hwr;simp at c2 c3 c4;have oh:=aa (Gc hwr);have kr:=aa (Gb hwr);clear hwr
 by_cases pY:j2<D.length
 ·have aaV:(j2:Int)<(D.length:Int):=by omega
  have SZ:(j2:Int)+1<=9223372036854775807:=by omega
  obtain⟨ga,ca,hva,QG,a0,a1,a2⟩:=pJ (aM B1.o.1 λk e=>cU.o.block k (aQ B1.o.1 k e).2) j2 pY
  injection hva with v1 v2 v3
  subst v1 v3;clear v2;obtain⟨gb,cb,XZ,hgb,b0,b1,b2⟩:=pJ (aM Al.o.1 λk e=>cU.o.block k (aQ Al.o.1 k e).2) j2 pY
  injection XZ with v1 v2 v3
  subst v1 v3;generalize D[j2]=x at*
  have heq:=λw=>ve x x w
  rw [show tz x x=true by simp [tz]]at heq
  have hgd:=λop a b w=>vg op a b x x w
  simp only [E']at heq hgd;have Mp:=aa LB;clear v2 LB
  go_wp2_with fail
  go_region_held3 (λw'=>w'.cell? ⟨wb,2,none⟩=some (.bool false)/\w'.cell? ⟨wb,3,none⟩=some (.slice (some ⟨ga,0,none⟩) D.length tc)/\w'.cell? ⟨wb,4,none⟩=some (.slice (some ⟨gb,0,none⟩) D.length ac)/\w'.cell? ⟨ga,j2*3,none⟩=some (.string ⟨x.ag.toArray⟩)/\w'.cell? ⟨ga,j2*3+1,none⟩=some (.int .i64 x.aK)/\w'.cell? ⟨ga,j2*3+2,none⟩=some (.int .i64 x.ai)/\w'.cell? ⟨gb,j2*3,none⟩=some (.string ⟨x.ag.toArray⟩)/\w'.cell? ⟨gb,j2*3+1,none⟩=some (.int .i64 x.aK)/\w'.cell? ⟨gb,j2*3+2,none⟩=some (.int .i64 x.ai)) (first|(go_keep;done)|exact⟨(kr.o _).trans c2,(kr.o _).trans c3,(kr.o _).trans c4,(kr.o _).trans a0,(kr.o _).trans a1,(kr.o _).trans a2,(kr.o _).trans b0,(kr.o _).trans b1,(kr.o _).trans b2⟩) (fail)
  all_goals
   go_wp2
   go_roundg (gk-1)
   case measure=>have:=Mp.o;omega
   case rel=>exact⟨j2+1,by have:=Mp.o;omega,by go_num,aa (cU.o.trans ((oh.o _).mono cU.o.size))⟩
 have aaV:¬(j2:Int)<(D.length:Int):=by omega
 have Ja:=aa (HWx.o.below cU.o);have jH:=aa (HDx.o.keep (S':=λk=>xU k=5+P.length) λk a b=>⟨a,cU.o.block k b⟩);have HTw:=aa (aM B1.o.1 λk e=>cU.o.block k (aQ B1.o.1 k e).2);have HHw:=aa (aM HHr.o.1 λk e=>cU.o.block k (aQ HHr.o.1 k e).2);have aaW:=aa ((cU.o.block _ aaU).trans HWb.o);have HFw:=aa (HFx.o.trans (Fz.below cU.o));have HHs:=aa (show hv.ownBlock=hv.ownBlock/\∀k,hv.ownBlock=some k->xU k=1 from⟨rfl,HHr.o.2⟩);have HTs:=aa B1.o.2;clear HWx HDx lF HWb B1 Al HHr cU HHB oh kr LB pY c2 c3 cf
 go_upto_region 15 with fail
 clear c4;have kp:=aa (aaP PB)
 go_cut [11] (λs11 w3=>∃oO oc,s11=.slice oO PB.length oc/\Hy (Below wr.heap.size wr w3)/\Hy (w3.ownsRow wr.heap.size 61 3 (.slice oO PB.length oc) PB.length (b_ PB)))
 case first=>
  rcases bZ jH.o.1 with⟨hv',QI⟩|⟨g,cap,hv',_,eP,_,_,_⟩
  ·injection hv' with v1 v2 v3
   subst v1 v3;have hle:PB= []:=List.eq_nil_of_length_eq_zero QI;subst hle;have HF:=aa (show Below wr.heap.size wr wr from Below.refl _ _);clear v2 QI
   go_wp2_with fail
   go_meet
   exact⟨none,0,rfl,HF,aa (World.ownsRow_nil _ _ _ _)⟩
  ·injection hv' with v1 v2 v3
   subst v1 v3;have Xw:=aa (show ∀j u,(b_ PB)[j]?=some u->wr.cell? ((⟨g,0,none⟩:Addr).add j)=some u by have:=nD jH.o 0;rw [List.drop_zero]at this;exact this);have HXl:=aa jH.o.1.1
   have b1:0+PB.length<=maxLen:=by unfold maxLen;omega
   have b2:(0+PB.length)*32<=140737488355328:=by omega
   clear v2;obtain⟨i0,nW,hz0,hz1,hz2⟩:=info_parts pA
   go_wp2_with (at_builtin;refine mB _ rfl _ _ 46 rfl wr.heap.size 61 i0 (.agg #[.string ⟨#[]⟩,.int .i64 0,.int .i64 0]) 3 32 underlying46 nW hz0 hz1 hz2 rfl (by decide) (.slice none 0 0) 0 [] rfl (World.ownsRow_nil _ _ _ _) ⟨g,0,none⟩ PB.length dc (b_ PB) rfl HXl.o Xw.o kp.o b1 b2 (Nat.le_refl _) ?_)
   intro o1 c1 w3 hown aB aJ;have HF:=aa (show Below wr.heap.size wr w3 from dF aB (λk e=>by simp [Value.ownBlock]at e) (Nat.le_refl _));have HO:=aa (show w3.ownsRow wr.heap.size 61 3 (.slice o1 PB.length c1) PB.length (b_ PB) by simpa using hown);clear hown aB aJ nW hz0 hz1 hz2
   go_wp2_with fail
   go_meet
   exact⟨o1,c1,by simp,HF,HO⟩
 obtain⟨oO,oc,rfl,dy,oJ⟩:=hcut;obtain⟨w3,hw3⟩:∃y,y=wc:=⟨_,rfl⟩;subst hw3;have hb3:=(dy.o.block _ cl).trans aaW.o;have c3:=ae hb3 3;have cl3:=af hb3;simp at c3;have WH:=aa (Dr (b:=0) (hs:=qI dH) (lv:=.slice tO D.length tc) (D:=D) hb3 (by rw [show(qI dH).length=dH.length by simp];exact aM HHw.o λk e=>dy.o.block k (aQ HHw.o k e).2) (by simpa using hl) (Nat.zero_le _) (aM HTw.o λk e=>dy.o.block k (aQ HTw.o k e).2) (by omega));clear hb3 kp
 go_wp2_with fail
 refine WH.o.mono ?_;intro e w4 hk;have QF:=aa hk;obtain⟨hb,ho,hc,rfl,XA,XB,Tt,hH,mF⟩:=hk;have s3:=dy.o.size
 have hTX:∀k,(k=wb\/hv.ownBlock=some k\/(Value.slice tO D.length tc).ownBlock=some k)->(xU k=1\/xU k=2)/\k<wr.heap.size:=λk q=>by
  rcases q with rfl|q|q
  ·exact⟨Or.inl Ja.o.MJ,cl⟩
  ·exact⟨Or.inl (HHs.o.2 k q),(aQ HHw.o k q).2⟩
  ·exact⟨Or.inr (HTs.o k q),(aQ HTw.o k q).2⟩
 have HD4:=aa (aM jH.o.1 λk e=>(mF.block k (by have:=(aQ jH.o.1 k e).2;omega) (λq=>by have:=(hTX k q).1;have:=jH.o.2 k e;omega)).trans (dy.o.block k (aQ jH.o.1 k e).2));have ot:=aa (aM oJ.o λk e=>mF.block k (aQ oJ.o k e).2 (λq=>by have:=(hTX k q).2;have:=(aQ oJ.o k e).1;omega));have A8:=aa XA;have acO:=af XA;clear XA XB Tt hH mF hTX WH c3 cl3 s3;go_wp2
 go_loopg [12] PB.length (λnn v12 wy=>∃j:Nat,nn+j=PB.length/\v12=.int .i64 j/\Hy (Below w4.heap.size w4 wy))
 case atStart=>exact⟨0,by omega,rfl,aa (Below.refl _ _)⟩
 obtain⟨j3,QR,rfl,gT⟩:=hrel;have hwr:=(gT.o.block _ acO).trans A8.o;have c2:=ae hwr 2;have c3:=ae hwr 3;have c4:=ae hwr 4;have cl5:=af hwr;have cf:=aj hwr;simp at c2 c3 c4;have oh:=aa (Gc hwr);have kr:=aa (Gb hwr);clear hwr
 by_cases kP:j3<PB.length
 ·have aaX:(j3:Int)<(PB.length:Int):=by omega
  have SZ:(j3:Int)+1<=9223372036854775807:=by omega
  clear c3 c4;obtain⟨ga,ca,hva,QG,a0,a1,a2⟩:=pJ (aM HD4.o λk e=>gT.o.block k (aQ HD4.o k e).2) j3 kP
  injection hva with v1 v2 v3
  subst v1 v3;clear v2;obtain⟨gb,cb,XZ,hgb,b0,b1,b2⟩:=pJ (aM ot.o λk e=>gT.o.block k (aQ ot.o k e).2) j3 kP
  injection XZ with v1 v2 v3
  subst v1 v3;generalize PB[j3]=x at*
  have heq:=λw=>ve x x w
  rw [show tz x x=true by simp [tz]]at heq
  have hgd:=λop a b w=>vg op a b x x w
  simp only [E']at heq hgd;have Mp:=aa QR;clear v2 QR
  go_wp2_with fail
  go_region_held3 (λw'=>w'.cell? ⟨wb,2,none⟩=some (.bool false)/\w'.cell? ⟨ga,j3*3,none⟩=some (.string ⟨x.ag.toArray⟩)/\w'.cell? ⟨ga,j3*3+1,none⟩=some (.int .i64 x.aK)/\w'.cell? ⟨ga,j3*3+2,none⟩=some (.int .i64 x.ai)/\w'.cell? ⟨gb,j3*3,none⟩=some (.string ⟨x.ag.toArray⟩)/\w'.cell? ⟨gb,j3*3+1,none⟩=some (.int .i64 x.aK)/\w'.cell? ⟨gb,j3*3+2,none⟩=some (.int .i64 x.ai)) (first|(go_keep;done)|exact⟨(kr.o _).trans c2,(kr.o _).trans a0,(kr.o _).trans a1,(kr.o _).trans a2,(kr.o _).trans b0,(kr.o _).trans b1,(kr.o _).trans b2⟩) (fail)
  all_goals
   go_wp2
   go_roundg (gk-1)
   case measure=>have:=Mp.o;omega
   case rel=>exact⟨j3+1,by have:=Mp.o;omega,by go_num,aa (gT.o.trans ((oh.o _).mono gT.o.size))⟩
 have aaX:¬(j3:Int)<(PB.length:Int):=by omega
 have fJ:=aa (IQ Ja.o aaW.o (by rw [List.length_set];exact jH.o) dy.o oJ.o QF.o gT.o);have V8:=aa HPB.o;clear QR kP oh kr QF HD4 ot Ja jH dy oJ;go_wp2;go_ret;obtain⟨jv,hb',hf,hf2⟩:=fJ.o;refine⟨jv,hb',Ap,rfl,?_,HFw.o.trans hf2⟩;rw [<-V8.o];exact hf
def Ci(tg:Nat->Nat)(w:World)(wb:Nat)(P:List PD)(dH:List Nat)(e:Ending)(w':World):Prop:=∃jv P' Tw D',e=.returned (.bool true)/\pI jv w' wb P' Tw D'/\Fz tg w jv w'/\0<P'.length/\P'.length<=P.length+1/\Tw.length<=dH.length+1/\D'.length<=8
theorem Tx(M:Int)(n:Nat)(hn:0<n):∃(r:Int) (j:Nat),j<n/\M.tmod n=r/\-(n:Int)<r/\r<n/\(r+n).tmod n=j/\(r+n)%n=j:=by
 have h1: -(n:Int)<M.tmod n/\M.tmod n<n:=by
  rcases Int.le_total 0 M with h|h
  ·rw [Int.tmod_eq_emod_of_nonneg h]
   have:=Int.emod_nonneg M (show(n:Int)≠0 by omega);have:=Int.emod_lt_of_pos M (show(0:Int)<n by omega);omega
  ·obtain⟨m,hm⟩:∃m:Int,M= -m:=⟨-M,by omega⟩
   subst hm;rw [Int.neg_tmod,Int.tmod_eq_emod_of_nonneg (by omega)];have:=Int.emod_nonneg m (show(n:Int)≠0 by omega);have:=Int.emod_lt_of_pos m (show(0:Int)<n by omega);omega
 have a1:=Int.emod_nonneg (M.tmod n+n) (show(n:Int)≠0 by omega);have a2:=Int.emod_lt_of_pos (M.tmod n+n) (show(0:Int)<n by omega);refine⟨_,((M.tmod n+n)%n).toNat,by omega,rfl,h1.1,h1.2,?_,by omega⟩;rw [Int.tmod_eq_emod_of_nonneg (by omega)];omega
theorem pI.aaY(h:pI tg w wb P dH D)(o:Obj):pI (AU tg w.heap.size 0) (w.alloc o) wb P dH D/\Fz tg w (AU tg w.heap.size 0) (w.alloc o):=
 have hb:Below w.heap.size w (w.alloc o):=(Below.refl _ _).alloc (Nat.le_refl _) o
 ⟨(h.aaM λk hk=>jf hk).below hb,hb.os,hb.tape,hb.output,hb.size,λk hk h0=>⟨by rw [jf hk];exact h0,hb.block k hk⟩⟩
theorem JX(h:pI tg w wb P dH D){j:Nat}{x:PD}(hx:P[j]?=some x):w.cell? ⟨x.pb,1,none⟩=some (.pointer (some ⟨x.rb,0,none⟩)):=by
 obtain⟨hj,e⟩:=List.getElem?_eq_some_iff.mp hx;have:=ae (h.kE j hj).blk 1;rw [e]at this;exact this
theorem kT{d:PD}:(P.set i d).length=P.length:=List.length_set ..
theorem Mq(h:pI tg w wb P dH D)(hP:0<P.length)(hP2:P.length<=10000000000000)(hl:dH.length<=10000000000000)(hD:D.length<=8)(K M A:Int)(hK:K<=4)(hM: -9223372036854775808<=M)(hM2:M<=9223372036854775807)(s t:List UInt8)(hs:s.length<=140737488355328)(ht:t.length<=140737488355328)(lo:Option Addr)(ln lc:Nat):
  Calls prog 33 #[.pointer (some ⟨wb,0,none⟩),.agg #[.int .i64 K,.int .i64 M,.int .i64 A,.string ⟨s.toArray⟩,.string ⟨t.toArray⟩,.slice lo ln lc]] w (Ci tg w wb P dH):=by
 obtain⟨r,j,hj,hr,hr1,hr2,RH,Mz⟩:=Tx M P.length hP;have HA:=aa h;have DA:=h.lt;have HK:=aa hK;clear h hK
 go_enter func33,ntmps33
 go_upto_region 1 with fail
 generalize RQ:w.alloc (.cells #[.int .i64 K,.int .i64 M,.int .i64 A,.string ⟨s.toArray⟩,.string ⟨t.toArray⟩,.slice lo ln lc] 75)=wA;have hA:=HA.o.aaY (.cells #[.int .i64 K,.int .i64 M,.int .i64 A,.string ⟨s.toArray⟩,.string ⟨t.toArray⟩,.slice lo ln lc] 75)
 have Y0:wA.heap[w.heap.size]?=some (.cells #[.int .i64 K,.int .i64 M,.int .i64 A,.string ⟨s.toArray⟩,.string ⟨t.toArray⟩,.slice lo ln lc] 75 (0,0)):=by rw [<-RQ];exact aF _ _
 rw [RQ]at hA;obtain⟨hA,fA⟩:=hA;obtain⟨bx,aaZ⟩:∃b,b=w.heap.size:=⟨_,rfl⟩;rw [<-aaZ]at Y0⊢;have Ux:=aa (show AU tg w.heap.size 0 bx=0 from vI (by omega));generalize AU tg w.heap.size 0=tg0 at hA fA Ux;have HHA:=aa hA;have HFA:=aa fA;have lF:=aa Y0;have aa_:=af Y0;have b0:=ae Y0 0;have b1:=ae Y0 1;simp at b0 b1;clear RQ hA fA Y0 aaZ HA DA
 by_cases hK1:K=1
 ·subst hK1
  clear hj hr hr1 hr2 RH Mz b1;have VO:=aa (Ch HHA.o hP2)
  go_wp2_with fail
  refine VO.o.mono ?_;rintro e w1 ⟨xS,d,rfl,h1,f1,-,-⟩;have fJ:=aa (show Ci tg w wb P dH (.returned (.bool true)) w1 from⟨xS,P++ [d],dH,D,rfl,h1,HFA.o.trans f1,by simp,by simp,by omega,hD⟩);clear h1 f1 VO;go_wp2;go_ret;exact fJ.o
 obtain⟨pv,hv,tv,av,hw,Bl,_,_,_⟩:=HHA.o.mem
 have hpl:(qI (P.map λd=>d.pb)).length=P.length:=by simp
 rw [<-hpl]at Bl;obtain⟨g,cap,By,eP,gj⟩:=k_ Bl.1 j (by rw [hpl];exact hj);subst By;rw [hpl]at hw
 have gj':wA.cell? ⟨g,j,none⟩=some (.pointer (some ⟨P[j].pb,0,none⟩)):=by rw [gj];simp
 have c0:=ae hw 0;have cl:=af hw;simp at c0
 have hjI:(j:Int)<(P.length:Int):=by omega
 have QI:((P.length:Int)==0)=false:=by rw [beq_eq_false_iff_ne];omega
 have qZ:(P.length:Int)≠0:=by omega
 have hnM:(P.length:Int)<=10000000000000:=by omega
 have HJ:=aa hj;have TU:=aa hP;have sH:=aa hP2;have HL:=aa hl;have HD:=aa hD;clear hw Bl hpl gj hP hP2 hl hD
 have Rt:(K==1)=false:=by simpa using hK1
 go_wp2_with fail
 go_quiet (fail)
 obtain⟨wB,hwB⟩:∃y,y=wA.drewN nq:=⟨_,rfl⟩;rw [<-hwB]
 have hbB:Below wA.heap.size wA wB:=by rw [hwB];exact bA wA nq
 have HB:=aa (HHA.o.below hbB);have HFB:=aa (HFA.o.trans ((Fz.below hbB).trans (Fz.below (Below.refl wB.heap.size wB).drew)));have Uv:=aa (HFA.o.trans (Fz.below hbB));have hBx:=(hbB.block _ aa_).trans lF.o;have hbl:=af hBx;have hp:=HB.o.kE j HJ.o;have F4:=aa (show ¬P[j].p.own bx from λe=>by have:=hp.own bx e;have:=Ux.o;omega);have HNp:=aa hp.UE;have p0:=ae hp.blk 0;have p1:=ae hp.blk 1;have pl:=af hp.blk;have e0:=ae hBx 0;have b3:=ae hBx 3;have b4:=ae hBx 4;simp at p0 p1 e0 b3 b4;clear hp hBx hbB hwB HHA HFA lF b0 b1 c0 cl eP gj' aa_ hjI QI qZ hnM hr hr1 hr2 RH Mz hM hM2;have pZ:=aa (HB.o.below (Below.refl wB.heap.size wB).drew)
 by_cases hK2:K=2
 ·subst hK2
  have pz:=aa (Qx pZ.o HJ.o s t hs ht);generalize hdd:P[j]=d at*;have HDd:=aa hdd;have Ya:=aa (show ∀x:PD,(P.set j x)[j]?=some x from λx=>by rw [List.getElem?_set_self HJ.o]);clear hdd
  go_wp2_with fail
  go_region_held3 (λw'=>w'.cell? ⟨bx,3,none⟩=some (.string ⟨s.toArray⟩)/\w'.cell? ⟨bx,4,none⟩=some (.string ⟨t.toArray⟩)/\w'.cell? ⟨d.pb,0,none⟩=some (.pointer (some ⟨d.p.sb,0,none⟩))) (go_keep)
   ((go_at_call 35;refine pz.o.mono ?_;rintro e w1 ⟨rfl,XD,AW,Qz⟩;have nJ:=aa Qz;have k3:=(World.cell?_of_block (AW bx hbl F4.o)).trans b3;have k4:=(World.cell?_of_block (AW bx hbl F4.o)).trans b4;have k0:=(World.cell?_of_block (AW d.pb pl HNp.o)).trans p0;have k1:=(World.cell?_of_block (AW d.pb pl HNp.o)).trans p1;have kl:d.pb<w1.heap.size:=Nat.lt_of_lt_of_le pl XD;clear AW Qz))
  all_goals
   go_wp2_with fail
   go_region_held3 (λw'=>w'.cell? ⟨bx,3,none⟩=some (.string ⟨s.toArray⟩)/\w'.cell? ⟨bx,4,none⟩=some (.string ⟨t.toArray⟩)/\w'.cell? ⟨d.pb,1,none⟩=some (.pointer (some ⟨d.rb,0,none⟩))) (go_keep)
    ((go_at_call 51;refine(nJ.o _ (Below.refl _ _).drew).mono ?_;rintro e w2 ⟨rfl,xU,h2,f2⟩;have H2:=aa h2;have F2:=aa f2;have m3:=(World.cell?_of_block (f2.block bx hbl Ux.o).2).trans b3;have m4:=(World.cell?_of_block (f2.block bx hbl Ux.o).2).trans b4;have m1:=JX h2 (Ya.o _)))
   all_goals
    have fJ:=aa (show Ci tg w wb P dH (.returned (.bool true)) _ from⟨xU,_,dH,D,rfl,H2.o,HFB.o.trans F2.o,by rw [kT];exact TU.o,by rw [kT];omega,by omega,HD.o⟩);go_wp2;go_ret;exact fJ.o
 by_cases hK3:K=3
 ·subst hK3
  have pz:=aa (Ga pZ.o HJ.o s hs);generalize hdd:P[j]=d at*;have HDd:=aa hdd;have Ya:=aa (show ∀x:PD,(P.set j x)[j]?=some x from λx=>by rw [List.getElem?_set_self HJ.o]);clear hdd
  go_wp2_with fail
  go_region_held3 (λw'=>w'.cell? ⟨bx,3,none⟩=some (.string ⟨s.toArray⟩)/\w'.cell? ⟨d.pb,0,none⟩=some (.pointer (some ⟨d.p.sb,0,none⟩))) (go_keep)
   ((go_at_call 28;refine pz.o.mono ?_;rintro e w1 ⟨rfl,XD,AW,Qz⟩;have nJ:=aa Qz;have k3:=(World.cell?_of_block (AW bx hbl F4.o)).trans b3;have k0:=(World.cell?_of_block (AW d.pb pl HNp.o)).trans p0;have k1:=(World.cell?_of_block (AW d.pb pl HNp.o)).trans p1;have kl:d.pb<w1.heap.size:=Nat.lt_of_lt_of_le pl XD;clear AW Qz))
  all_goals
   go_wp2_with fail
   go_region_held3 (λw'=>w'.cell? ⟨bx,3,none⟩=some (.string ⟨s.toArray⟩)/\w'.cell? ⟨d.pb,1,none⟩=some (.pointer (some ⟨d.rb,0,none⟩))) (go_keep)
    ((go_at_call 52;refine(nJ.o _ (Below.refl _ _).drew).mono ?_;rintro e w2 ⟨rfl,xU,h2,f2⟩;have H2:=aa h2;have F2:=aa f2;have m3:=(World.cell?_of_block (f2.block bx hbl Ux.o).2).trans b3;have m1:=JX h2 (Ya.o _)))
   all_goals
    have fJ:=aa (show Ci tg w wb P dH (.returned (.bool true)) _ from⟨xU,_,dH,D,rfl,H2.o,HFB.o.trans F2.o,by rw [kT];exact TU.o,by rw [kT];omega,by omega,HD.o⟩);go_wp2;go_ret;exact fJ.o
 by_cases hK4:K=4
 ·subst hK4
  have gQ:=aa (IU HB.o HJ.o HL.o HD.o)
  have OX:(bz P[j].s).1.length<=8:=by
   have h1:=(HB.o.kE j HJ.o).st.ku.1;have:(bz P[j].s).1.length<=P[j].s.L.length:=nj;omega
  have GY:=aa OX;clear OX
  go_wp2_with fail
  refine gQ.o.mono ?_;rintro e w1 ⟨xS,hb,lv,rfl,h1,f1⟩;have fJ:=aa (show Ci tg w wb P dH (.returned (.bool true)) w1 from⟨xS,_,_,_,rfl,h1,Uv.o.trans f1,by rw [kT];exact TU.o,by rw [kT];omega,by simp,GY.o⟩);clear h1 f1;go_wp2;go_ret;exact fJ.o
 have h5:(K==2)=false/\(K==3)=false/\(K==4)=false/\(K==5)=false/\(K==6)=false/\(K==7)=false/\(K==8)=false:=by have:=HK.o;refine⟨?_,?_,?_,?_,?_,?_,?_⟩<;>(simp;omega)
 obtain⟨g2,g3,g4,g5,g6,g7,g8⟩:=h5;have fJ:=aa (show Ci tg w wb P dH (.returned (.bool true)) wB from⟨_,P,dH,D,rfl,HB.o,Uv.o,TU.o,by omega,by omega,HD.o⟩);go_wp2;go_ret;exact fJ.o
structure UF where
 K:Int
 M:Int
 A:Int
 s:List UInt8
 t:List UInt8
 lo:Option Addr
 ln:Nat
 lc:Nat
structure Cj (w:World) (b off:Nat) (zs:List UF):Prop where
 lt:zs≠ []->b<w.heap.size
 c0:∀j (h:j<zs.length),w.cell? ⟨b,off+j*6,none⟩=some (.int .i64 zs[j].K)
 c1:∀j (h:j<zs.length),w.cell? ⟨b,off+j*6+1,none⟩=some (.int .i64 zs[j].M)
 c2:∀j (h:j<zs.length),w.cell? ⟨b,off+j*6+2,none⟩=some (.int .i64 zs[j].A)
 c3:∀j (h:j<zs.length),w.cell? ⟨b,off+j*6+3,none⟩=some (.string ⟨zs[j].s.toArray⟩)
 c4:∀j (h:j<zs.length),w.cell? ⟨b,off+j*6+4,none⟩=some (.string ⟨zs[j].t.toArray⟩)
 c5:∀j (h:j<zs.length),w.cell? ⟨b,off+j*6+5,none⟩=some (.slice zs[j].lo zs[j].ln zs[j].lc)
 m1:∀z∈zs,-9223372036854775808<=z.M
 m2:∀z∈zs,z.M<=9223372036854775807
 sl:∀z∈zs,z.s.length<=140737488355328
 tl:∀z∈zs,z.t.length<=140737488355328
 len:zs.length<=2000000000000
theorem Cj.below{b off:Nat}{zs:List UF}(h:Cj w b off zs)(hb:Below w.heap.size w w'):Cj w' b off zs:=
 have n:∀j,j<zs.length->zs≠ []:=λj q e=>by rw [e]at q;exact absurd q (by simp)
 have k:∀j,j<zs.length->∀o,w'.cell? ⟨b,o,none⟩=w.cell? ⟨b,o,none⟩:=λj q o=>World.cell?_of_block (hb.block b (h.lt (n j q)))
 ⟨λe=>Nat.lt_of_lt_of_le (h.lt e) hb.size,λj q=>(k j q _).trans (h.c0 j q),λj q=>(k j q _).trans (h.c1 j q),λj q=>(k j q _).trans (h.c2 j q),λj q=>(k j q _).trans (h.c3 j q),λj q=>(k j q _).trans (h.c4 j q),λj q=>(k j q _).trans (h.c5 j q),h.m1,h.m2,h.sl,h.tl,h.len⟩
structure Ge (w:World) (wb:Nat) (m:Nat) (wr:World):Prop where
 st:∃tg P dH D,pI tg wr wb P dH D/\0<P.length/\P.length<=m/\dH.length<=m/\D.length<=8/\Fz (λ_=>0) w tg wr
theorem Ge.below(h:Ge w wb m wr):Below w.heap.size w wr:=by
 obtain⟨tg,P,dH,D,_,_,_,_,_,f⟩:=h.st
 exact f.all λ_ _=>rfl
theorem Ge.go(h:Ge w wb m wr)(hb:Below wr.heap.size wr w'):Ge w wb m w':=by
 obtain⟨tg,P,dH,D,a,b,c,d,e,f⟩:=h.st;exact⟨tg,P,dH,D,a.below hb,b,c,d,e,f.trans (Fz.below hb)⟩
theorem Ge.mono{m':Nat}(h:Ge w wb m wr)(hm:m<=m'):Ge w wb m' wr:=by
 obtain⟨tg,P,dH,D,a,b,c,d,e,f⟩:=h.st;exact⟨tg,P,dH,D,a,b,by omega,by omega,e,f⟩
theorem Ge.step(h:Ge w wb m wr)(hm:m<=9000000000000)(z:UF)(hK:z.K<=4)(hM: -9223372036854775808<=z.M)(hM2:z.M<=9223372036854775807)(hs:z.s.length<=140737488355328)(ht:z.t.length<=140737488355328):
  Calls prog 33 #[.pointer (some ⟨wb,0,none⟩),.agg #[.int .i64 z.K,.int .i64 z.M,.int .i64 z.A,.string ⟨z.s.toArray⟩,.string ⟨z.t.toArray⟩,.slice z.lo z.ln z.lc]] wr λe w'=>e=.returned (.bool true)/\Ge w wb (m+1) w':=by
 obtain⟨tg,P,dH,D,a,b,c,d,e,f⟩:=h.st;refine(Mq a b (by omega) (by omega) e z.K z.M z.A hK hM hM2 z.s z.t hs ht z.lo z.ln z.lc).mono ?_;rintro e w' ⟨jv,P',Tw,D',rfl,a',f',b',c',d',e'⟩;exact⟨rfl,jv,P',Tw,D',a',b',by omega,by omega,e',f.trans f'⟩
theorem Ge.looks(h:Ge w wb m wr):Calls prog 34 #[.pointer (some ⟨wb,0,none⟩)] wr λe w'=>e=.returned (.bool true)/\Ge w wb m w':=by
 obtain⟨tg,P,dH,D,a,_⟩:=h.st;refine(Mm a).mono ?_;rintro e w' ⟨rfl,hb⟩;exact⟨rfl,h.go hb⟩
theorem pI.nil(h:w.heap[wb]?=some (.cells #[.slice none 0 0,.slice none 0 0,.bool false,.slice none 0 0,.slice none 0 0] 71 (0,0)))(ht:tg wb=1):pI tg w wb [] [] []:=
 have z:∀{S:Nat->Prop} {t:TypeId} {n:Nat},cW S w t n (.slice none 0 0) 0 []:=⟨World.ownsRow_nil _ _ _ _,λg e=>by simp [Value.ownBlock]at e⟩
 ⟨⟨_,_,_,_,h,z,z,z,z⟩,ht,λi hi=>absurd hi (by simp),λx hx=>by cases hx⟩
theorem Gf(w:World):Calls prog 32 #[.pointer (some ⟨w.heap.size,0,none⟩)] (w.alloc (.cells #[.slice none 0 0,.slice none 0 0,.bool false,.slice none 0 0,.slice none 0 0] 71)) λe w'=>e=.returned (.bool true)/\Ge w w.heap.size 1 w':=by
 have h:=pI.nil (tg:=AU (λ_=>0) w.heap.size 1) (aF w (.cells #[.slice none 0 0,.slice none 0 0,.bool false,.slice none 0 0,.slice none 0 0] 71)) (vI (Nat.le_refl _));refine(Ch h (by simp)).mono ?_;rintro e w' ⟨jv,d,rfl,h1,f1,-,-⟩;have hb:Below w.heap.size w (w.alloc (.cells #[.slice none 0 0,.slice none 0 0,.bool false,.slice none 0 0,.slice none 0 0] 71)):=(Below.refl _ _).alloc (Nat.le_refl _) _;exact⟨rfl,jv,[d],[],[],h1,by simp,by simp,by simp,by simp,(show Fz (λ_=>0) w (AU (λ_=>0) w.heap.size 1) _ from⟨hb.os,hb.tape,hb.output,hb.size,λk hk _=>⟨jf hk,hb.block k hk⟩⟩).trans f1⟩
theorem IV(w:World)(ao:Option Addr)(b off cap:Nat)(zs:List UF)(h:Cj w b off zs)(ha:ao=some ⟨b,off,none⟩\/zs= []):
  Calls prog 12 #[.slice ao zs.length cap,.int .i64 2,.int .i64 4,.int .i64 4] w λe w'=>e=.returned (.bool true)/\Below w.heap.size w w':=by
 have HS:=aa h;have HA:=aa ha;have VO:=aa (Gf w);have hzl:zs.length<=2000000000000:=h.len;clear h ha
 go_enter func12,ntmps12
 go_wp2_with fail
 refine VO.o.mono ?_;rintro e w1 ⟨rfl,h1⟩;have ky:=aa (h1.step (by omega) ⟨2,0,0,[119],[102,110,32,102,40,41,58,32,105,110,116,32,61,32,116,114,117,101,59],none,0,0⟩ (by simp) (by simp) (by simp) (by simp) (by simp));clear h1 VO
 go_wp2_with fail
 refine ky.o.mono ?_;rintro e w2 ⟨rfl,h2⟩;have kg:=aa (h2.step (by omega) ⟨2,0,0,[109],[112,117,98,32,102,110,32,111,110,101,40,41,58,32,105,110,116,32,61,32,49,59],none,0,0⟩ (by simp) (by simp) (by simp) (by simp) (by simp));clear h2 ky
 go_wp2_with fail
 refine kg.o.mono ?_;rintro e w3 ⟨rfl,h3⟩;have nH:=aa (h3.step (by omega) ⟨4,0,0,[],[],none,0,0⟩ (by simp) (by simp) (by simp) (by simp) (by simp));clear h3 kg
 go_wp2_with fail
 refine nH.o.mono ?_;rintro e w4 ⟨rfl,h4⟩;have HP4:=aa h4;clear h4 nH;go_wp2
 go_loopg [14] zs.length (λnn v14 wr=>∃j:Nat,nn+j=zs.length/\v14=.int .i64 j/\Hy (Ge w w.heap.size (j+4) wr))
 case atStart=>exact⟨0,by omega,rfl,HP4⟩
 obtain⟨j,hj,rfl,HP⟩:=hrel
 by_cases hlt:j<zs.length
 ·have eu:(j:Int)<(zs.length:Int):=by omega
  have SZ:(j:Int)+1<=9223372036854775807:=by omega
  rcases HA.o with rfl|he
  ·have hs:=HS.o.below HP.o.below
   have c0:=hs.c0 j hlt;have c1:=hs.c1 j hlt;have c2:=hs.c2 j hlt;have c3:=hs.c3 j hlt;have c4:=hs.c4 j hlt;have c5:=hs.c5 j hlt;have cl:=hs.lt (λe=>by rw [e]at hlt;exact absurd hlt (by simp));have qG:=List.getElem_mem hlt;have m1:=hs.m1 _ qG;have m2:=hs.m2 _ qG;have sl:=hs.sl _ qG;have tl:=hs.tl _ qG;generalize zs[j]=z at*;have Mp:=aa hj;clear hs qG hj
   by_cases hK:z.K<=4
   ·have hK':decide (z.K>4)=false:=by simp;omega
    have hK2:¬(4<z.K):=by omega
    have oD:=aa (λwx (hb:Below wr.heap.size wr wx)=>(HP.o.go hb).step (m:=j+4) (by omega) z hK m1 m2 sl tl);clear m1 m2 sl tl hK
    go_wp2_with fail
    refine(oD.o _ ((Below.refl _ _).alloc (Nat.le_refl _) _)).mono ?_;rintro e w5 ⟨rfl,h5⟩;have HL:=aa h5.looks;clear h5 oD
    go_wp2_with fail
    refine HL.o.mono ?_;rintro e w6 ⟨rfl,h6⟩;have MV:=aa (show Ge w w.heap.size (j+1+4) w6 from h6.mono (by omega));clear h6 HL;go_wp2
    go_roundg (gk-1)
    case measure=>have:=Mp.o;omega
    case rel=>exact⟨j+1,by have:=Mp.o;omega,by go_num,MV⟩
   ·have hK':decide (z.K>4)=true:=by simp;omega
    have hK2:4<z.K:=by omega
    have MV:=aa (λo=>(HP.o.go ((Below.refl wr.heap.size wr).alloc (Nat.le_refl _) o)).mono (show j+4<=j+1+4 by omega));clear m1 m2 sl tl hK;go_wp2
    go_roundg (gk-1)
    case measure=>have:=Mp.o;omega
    case rel=>exact⟨j+1,by have:=Mp.o;omega,by go_num,aa (MV.o _)⟩
  ·subst he;simp at hlt
 have eu:¬(j:Int)<(zs.length:Int):=by omega
 have fJ:=aa HP.o.below;clear hj hlt;go_wp2;go_ret;exact⟨rfl,fJ.o⟩
theorem Q0(w:World)(ao:Option Addr)(b off cap:Nat)(zs:List UF)(h:Cj w b off zs)(ha:ao=some ⟨b,off,none⟩\/zs= []):
  Calls prog 3 #[.slice ao zs.length cap] w λe w'=>e=.returned (.bool true)/\Below w.heap.size w w':=by
 have HP:=aa (IV w ao b off cap zs h ha);clear h ha
 go_enter func3,ntmps3
 go_wp2_with fail
 refine HP.o.mono ?_;rintro e w1 ⟨rfl,hb⟩;go_wp2;go_ret;exact⟨rfl,hb⟩
end Go.Proofs.YtpmmjkiclngpmaaGreatDoor
