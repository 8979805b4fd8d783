/- YtpmmjkiclngpmaaGreatDoorB40 -/
import Derived.Test.YtpmmjkiclngpmaaGreatDoorB18
import Derived.Test.YtpmmjkiclngpmaaGreatDoorB33
set_option maxRecDepth 100000
set_option linter.unusedSimpArgs false
set_option linter.unusedVariables false
set_option maxHeartbeats 12800000
namespace Go.Proofs.YtpmmjkiclngpmaaGreatDoor
open Tryz
open Go.RowKit Go.Maps
variable{fs done:List CF}{xs:List Value}{w w' w0:World}{S:Nat->Prop}{fv pv kv lv:Value}{lo ib mb:Nat}{f:CF}
def Li(f:CF):Sym:=(f.mod,f.ag)
def OI:List CF->Nat->(Sym->Option Nat)->Sym->Option Nat
 | [],_,p=>p
 |f::r,k,p=>OI r (k+1) (λy=>if y=Li f then some k else p y)
def BF(l:List CF):Sym->Option Nat:=OI l 0 (λ_=>none)
theorem Lj(l:List CF)(f:CF):∀(k:Nat) (p:Sym->Option Nat),OI (l++ [f]) k p=λy=>if y=Li f then some (k+l.length)else OI l k p y:=by
 induction l with
 |nil=>intro k p;rfl
 |cons x r ih=>
  intro k p;show OI (r++ [f]) (k+1) _=_;rw [ih]
  funext y
  rw [List.length_cons,show k+1+r.length=k+(r.length+1) by omega]
  rfl
theorem OJ(l:List CF)(f:CF):BF (l++ [f])=λy=>if y=Li f then some l.length else BF l y:=by
 unfold BF;rw [Lj];simp only [Nat.zero_add]
def uY(os:List (List CF)):List CF:=os.flatten.map (yO (BF os.flatten))
theorem iC.at(h:iC S w xs fs)(j:Nat)(hj:j<fs.length):
  ∃pv kv lv,oz S w fs[j] pv kv lv/\∀c,c<8->xs[j*8+c]?=(eY fs[j] pv kv lv)[c]?:=by
 obtain⟨pv,kv,lv,e,r⟩:=h.2 j hj;refine⟨pv,kv,lv,r,λc hc=> ?_⟩;rw [<-e,List.getElem?_take,if_pos hc,List.getElem?_drop]
theorem iC.set{S':Nat->Prop}(h:iC S w xs fs)(hk:∀k,S k->k<w.heap.size->S' k/\w'.heap[k]?=w.heap[k]?)(j:Nat)(hj:j<fs.length)(f:CF)(pv kv lv kv' Ap:Value)(hx:∀c,c<8->xs[j*8+c]?=(eY fs[j] pv kv lv)[c]?)(hf:f.mod=fs[j].mod/\f.ag=fs[j].ag/\f.gW=fs[j].gW/\f.sig=fs[j].sig/\f.aee=fs[j].aee)(hr:oz S' w' f pv kv' Ap):iC S' w' ((xs.set (j*8+6) kv').set (j*8+7) Ap) (fs.set j f):=by
 obtain⟨e1,e2,e3,e4,e5⟩:=hf;refine⟨by rw [List.length_set,List.length_set,List.length_set];exact h.1,λi hi=> ?_⟩;rw [List.length_set]at hi
 by_cases I':i=j
 ·subst I'
  refine⟨pv,kv',Ap,?_,by simpa using hr⟩;have hl:=h.1
  apply List.ext_getElem?
  intro c
  by_cases hc:c<8
  ·rw [List.getElem?_take,if_pos hc,List.getElem?_drop,List.getElem_set_self]
   have hlt:i*8+7<xs.length:=by omega
   have key:=hx c hc
   rcases (show c=7\/c=6\/c<6 by omega)with rfl|rfl|h6
   ·rw [List.getElem?_set_self (by rw [List.length_set];exact hlt)];rfl
   ·rw [List.getElem?_set_ne (by omega),List.getElem?_set_self (by omega)];rfl
   ·rw [List.getElem?_set_ne (by omega),List.getElem?_set_ne (by omega),key]
    unfold eY;rw [e1,e2,e3,e4,e5]
    rcases (show c=0\/c=1\/c=2\/c=3\/c=4\/c=5 by omega)with rfl|rfl|rfl|rfl|rfl|rfl<;>rfl
  ·rw [List.getElem?_eq_none (by rw [List.length_take];omega),List.getElem?_eq_none (by simp [eY];omega)]
 obtain⟨a,b,c,e,r⟩:=h.2 i hi;refine⟨a,b,c,?_,?_⟩
 ·rw [List.getElem_set_ne (by omega),<-e]
  apply List.ext_getElem?
  intro q;rw [List.getElem?_take,List.getElem?_take]
  split
  ·rw [List.getElem?_drop,List.getElem?_drop,List.getElem?_set_ne (by omega),List.getElem?_set_ne (by omega)]
  ·rfl
 rw [List.getElem_set_ne (by omega)];exact r.keep hk
structure Gv (lo ib mb:Nat) (S:Nat->Prop) (fv:Value) (done:List CF) (w0 w:World):Prop where
 dB:Below lo w0 w
 low:lo<=ib/\lo<=mb
 blk:w.heap[ib]?=some (.cells #[fv] 95 (0,0))
 row:∃xs,w.ownsRow lo 92 8 fv done.length xs/\iC (λk=>S k/\k<lo) w xs done
 H3:oY w mb done.length (BF done)
 n1:fv.ownBlock≠some ib
theorem Gv.nmb(h:Gv lo ib mb S fv done w0 w):fv.ownBlock≠some mb/\ib≠mb:=by
 obtain⟨es,cl,hm⟩:=h.H3.isMap;refine⟨λe=> ?_,λe=> ?_⟩
 ·obtain⟨xs,hx,_⟩:=h.row
  obtain⟨c,t,f,hc⟩:=pR hx e;rw [hm]at hc;cases hc
 have:=h.blk;rw [e,hm]at this;cases this
theorem Gv.below(h:Gv lo ib mb S fv done w0 w)(hb:Below w.heap.size w w'):Gv lo ib mb S fv done w0 w' where
 dB:=h.dB.trans (hb.mono (by have:=h.low.1;have:=af h.blk;omega))
 low:=h.low
 blk:=(hb.block _ (af h.blk)).trans h.blk
 row:=by obtain⟨xs,a,b⟩:=h.row;exact⟨xs,bE a (λk _ l=>hb.block k l),b.keep λk h1 h2=>⟨h1,hb.block k h2⟩⟩
 H3:=h.H3.keep (hb.block _ h.H3.lt)
 n1:=h.n1
structure Wc (lo ib mb:Nat) (S:Nat->Prop) (fv:Value) (done:List CF) (f:CF) (w0 w:World):Prop where
 dB:Below lo w0 w
 low:lo<=ib/\lo<=mb
 blk:w.heap[ib]?=some (.cells #[fv] 95 (0,0))
 row:∃xs,w.ownsRow lo 92 8 fv done.length xs/\iC (λk=>S k/\k<lo) w xs done
 H3:oY w mb (done.length+1) (BF (done++ [f]))
 n1:fv.ownBlock≠some ib
 n2:fv.ownBlock≠some mb
 n3:ib≠mb
theorem Gv.note(h:Gv lo ib mb S fv done w0 w)(hg:w.grownBy w' (some mb))(hp:oY w' mb (done.length+1) (λy=>if y=Li f then some done.length else BF done y)):Wc lo ib mb S fv done f w0 w':=by
 have hl:=h.low;have hbl:=af h.blk;have hne:=h.nmb;have hsz:=h.dB.size
 have KL:lo<=w.heap.size:=by omega
 refine⟨⟨hg.os.trans h.dB.os,hg.tape.trans h.dB.tape,hg.output.trans h.dB.output,Nat.le_trans h.dB.size hg.size,λk hk=>(hg.block k (by omega) (λe=>by simp at e;omega)).trans (h.dB.block k hk)⟩,h.low,(hg.block _ hbl (λe=>hne.2 (by simpa using e))).trans h.blk,?_,by rw [OJ];exact hp,h.n1,hne.1,hne.2⟩;obtain⟨xs,a,b⟩:=h.row;exact⟨xs,bE a (λk e l=>hg.block k l (λe'=>hne.1 (by rw [<-e'];exact e))),b.keep λk h1 h2=>⟨h1,hg.block k h2 (λe=>by simp at e;omega)⟩⟩
theorem Wc.put{ES:Value}{w2:World}(h:Wc lo ib mb S fv done f w0 w)(hg:w.grownBy w2 fv.ownBlock)(hr:oz (λk=>S k/\k<lo) w f pv kv lv)(hx:w.ownsRow lo 92 8 fv done.length xs)(v_:iC (λk=>S k/\k<lo) w xs done)(ho:w2.ownsRow lo 92 8 ES (done.length+1) (xs++eY f pv kv lv))(hw:∀k,ES.ownBlock=some k->fv.ownBlock=some k\/w.heap.size<=k):
  Gv lo ib mb S ES (done++ [f]) w0 (w2.setCell ⟨ib,0,none⟩ ES):=by
 have hl:=h.low;have hbl:=af h.blk;have Aj:=h.H3.lt
 have hn:ES.ownBlock≠some ib:=λe=>(hw _ e).elim h.n1 (λh'=>by omega)
 have hlt:∀k,k<lo->fv.ownBlock≠some k:=λk hk e=>by have:=(aG hx k e).1;omega
 have fG:∀k,(S k/\k<lo)->k<w.heap.size->(S k/\k<lo)/\(w2.setCell ⟨ib,0,none⟩ ES).heap[k]?=w.heap[k]?:=λk h1 h2=>⟨h1,(Below.heap_setCell _ _ _ _ (by show k≠ib;omega)).trans (hg.block k h2 (λe=>hlt k h1.2 e.symm))⟩
 refine⟨?_,h.low,?_,⟨xs++eY f pv kv lv,?_,?_⟩,?_,hn⟩
 ·have hb:Below lo w w2:=⟨hg.os,hg.tape,hg.output,hg.size,λk hk=>hg.block k (by omega) (λe=>hlt k hk e.symm)⟩
  exact(h.dB.trans hb).setCell (p:=⟨ib,0,none⟩) hl.1 _
 ·rw [ax ((hg.block _ hbl (λe=>h.n1 e.symm)).trans h.blk)];rfl
 ·rw [List.length_append,List.length_singleton];exact a8 ho hn _ _
 ·exact(v_.keep fG).snoc (hr.keep fG)
 rw [List.length_append,List.length_singleton];exact h.H3.keep ((Below.heap_setCell _ _ _ _ (by show mb≠ib;exact Ne.symm h.n3)).trans (hg.block _ Aj (λe=>h.n2 e.symm)))
def cS{α:Type}(L:α->α)(c:List α)(j:Nat):List α:=(c.take j).map L++c.drop j
theorem fU{α:Type}(L:α->α)(c:List α)(j:Nat):(cS L c j).length=c.length:=by
 unfold cS;rw [List.length_append,List.length_map,List.length_take,List.length_drop];omega
theorem ng{α:Type}(L:α->α)(c:List α)(j:Nat)(hj:j<c.length):(cS L c j)[j]'(by rw [fU];exact hj)=c[j]:=by
 unfold cS;rw [List.getElem_append_right (by rw [List.length_map,List.length_take];omega)];simp only [List.length_map,List.length_take,List.getElem_drop]
 congr 1;omega
theorem nh{α:Type}(L:α->α)(c:List α)(j:Nat)(hj:j<c.length):cS L c (j+1)=(cS L c j).set j (L c[j]):=by
 unfold cS
 have hl:((c.take j).map L).length=j:=by rw [List.length_map,List.length_take];omega
 rw [List.set_append_right _ _ (by omega),hl,Nat.sub_self,List.take_succ_eq_append_getElem hj,List.map_append]
 have:(c.drop j).set 0 (L c[j])=L c[j]::c.drop (j+1):=by rw [List.drop_eq_getElem_cons hj];rfl
 rw [this];simp
def ZP(lo ib mb:Nat)(S:Nat->Prop)(fv:Value)(k:Nat):Prop:=(S k/\k<lo)\/(lo<=k/\k≠ib/\k≠mb/\fv.ownBlock≠some k)
structure Ue (lo ib mb:Nat) (S:Nat->Prop) (fv:Value) (l:List CF) (p:Sym->Option Nat) (w0 w:World):Prop where
 dB:Below lo w0 w
 low:lo<=ib/\lo<=mb
 blk:w.heap[ib]?=some (.cells #[fv] 95 (0,0))
 row:∃xs,w.ownsRow lo 92 8 fv l.length xs/\iC (ZP lo ib mb S fv) w xs l
 H3:∃n,oY w mb n p
 n1:fv.ownBlock≠some ib
 n2:fv.ownBlock≠some mb
 n3:ib≠mb
theorem Gv.bou(h:Gv lo ib mb S fv done w0 w):Ue lo ib mb S fv done (BF done) w0 w where
 dB:=h.dB
 low:=h.low
 blk:=h.blk
 row:=by obtain⟨xs,a,b⟩:=h.row;exact⟨xs,a,b.keep λk h1 _=>⟨Or.inl h1,rfl⟩⟩
 H3:=⟨_,h.H3⟩
 n1:=h.n1
 n2:=h.nmb.1
 n3:=h.nmb.2
theorem Ue.step{g n cap:Nat}{l:List CF}{p:Sym->Option Nat}(h:Ue lo ib mb S (.slice (some ⟨g,0,none⟩) n cap) l p w0 w)(i:Nat)(hi:i<l.length){arr:Array Value}{t:TypeId}(aed:w.heap[g]?=some (.cells arr t (0,0)))(ho:w.ownsRow lo 92 8 (.slice (some ⟨g,0,none⟩) n cap) l.length xs)(v_:iC (ZP lo ib mb S (.slice (some ⟨g,0,none⟩) n cap)) w xs l)(hr:oz (ZP lo ib mb S (.slice (some ⟨g,0,none⟩) n cap)) w l[i] pv kv lv)(hx:∀c,c<8->xs[i*8+c]?=(eY l[i] pv kv lv)[c]?){kv':Value}(hb:bG (λk=>k=g) w w')(hb':w'.heap[g]?=some (.cells ((arr.setIfInBounds (i*8+6) kv').setIfInBounds (i*8+7) (.slice none 0 0)) t (0,0)))(gZ:w'.ownsRow w.heap.size 196 2 kv' l[i].aK.length (cX (l[i].aK.map (yF (Gq p) l[i].bq)))):
  Ue lo ib mb S (.slice (some ⟨g,0,none⟩) n cap) (l.set i (yO p l[i])) p w0 w':=by
 have hg:g≠ib:=λe=>h.n1 (by rw [<-e];rfl)
 have Ot:g≠mb:=λe=>h.n2 (by rw [<-e];rfl)
 have eP:=(aG ho g rfl).1;have hgs:=af aed
 have hn:n=l.length:=by
  obtain⟨o,c,e⟩:=ak ho;simp only [Value.slice.injEq]at e;exact e.2.1
 subst hn;have hl:=h.low;have Dz:=af h.blk
 have fG:∀k,ZP lo ib mb S (.slice (some ⟨g,0,none⟩) l.length cap) k->k<w.heap.size->ZP lo ib mb S (.slice (some ⟨g,0,none⟩) l.length cap) k/\w'.heap[k]?=w.heap[k]?:=λk h1 h2=>⟨h1,hb.block k h2 (λe=>by
  rcases h1 with q|q
  ·omega
  ·exact q.2.2.2 (by rw [e];rfl))⟩
 refine⟨⟨hb.os.trans h.dB.os,hb.tape.trans h.dB.tape,hb.output.trans h.dB.output,Nat.le_trans h.dB.size hb.size,λk hk=>(hb.block k (by omega) (by omega)).trans (h.dB.block k hk)⟩,h.low,(hb.block _ Dz (λe=>hg e.symm)).trans h.blk,⟨(xs.set (i*8+6) kv').set (i*8+7) (.slice none 0 0),?_,?_⟩,?_,h.n1,h.n2,h.n3⟩
 ·rw [List.length_set]
  have o1:=jQ (jQ ho (i*8+6) kv') (i*8+7) (.slice none 0 0)
  refine bE o1 λk e _=> ?_
  have e':g=k:=by simpa [Value.ownBlock]using e
  subst e';rw [hb',ax (ax aed _ _)]
 ·refine v_.set fG i hi (yO p l[i]) pv kv lv kv' (.slice none 0 0) hx ⟨rfl,rfl,rfl,rfl,rfl⟩ ⟨hr.pr.keep fG,?_,?_⟩
  ·refine p_.of (lo:=w.heap.size) (by show World.ownsRow _ _ _ _ _ (l[i].aK.map _).length _;rw [List.length_map];exact gZ) λk e=>Or.inr ?_
   have:=(aG gZ k e).1;exact⟨by omega,by omega,by obtain⟨_,hp⟩:=h.H3;have:=hp.lt;omega,λe'=>by have:g=k:=(by simpa [Value.ownBlock]using e');omega⟩
  ·exact p_.of (lo:=0) (World.ownsRow_nil _ _ _ _) (λk e=>by simp [Value.ownBlock]at e)
 obtain⟨q,hp⟩:=h.H3;exact⟨q,hp.keep (hb.block _ hp.lt (λe=>Ot e.symm))⟩
end Go.Proofs.YtpmmjkiclngpmaaGreatDoor
