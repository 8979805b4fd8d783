/- YtpmmjkiclngpmaaGreatDoorB06 -/
import Derived.Test.YtpmmjkiclngpmaaGreatDoorB05
set_option maxRecDepth 100000
set_option linter.unusedSimpArgs false
set_option linter.unusedVariables false
set_option maxHeartbeats 12800000
namespace Go.Proofs.YtpmmjkiclngpmaaGreatDoor
open Tryz
open Go.RowKit
variable{b n size base g cap mb ib fb:Nat}{w w':World}{xs:List Value}{v:Value}
structure Fr where
 f:Nat
 next:Nat
 base:Nat
structure MS where
 stack:List Int
 yB:List Fr
 fuel:Nat
 AY:Nat
structure Fn where
 ay:Nat
 aee:Nat
 aK:List (Nat×Int)
def b2i(b:Bool):Int:=if b then 1 else 0
def abl(op:Nat)(a b:Int):Int:=
 if op=7 then b2i (decide (a<b))else if op=8 then b2i (decide (a=b))else if op=9 then wrap64 (a+b)else if op=10 then wrap64 (a-b)else if op=11 then wrap64 (a*b)else wrap64 (a.tdiv b)
def un1(op:Nat)(a:Int):Int:=if op=13 then wrap64 (-a)else b2i (decide (a=0))
def Ri(fb:Nat)(x:Fr):List Value:= [.pointer (some ⟨fb,x.f*8,none⟩),.int .i64 x.next,.int .i64 x.base]
def Rj(l:List Int):List Value:=l.reverse.map (Value.int .i64)
def Rk(fb:Nat)(l:List Fr):List Value:=l.reverse.flatMap (Ri fb)
structure Bd where
 lo:Nat
 tb:Nat
variable{B:Bd}
structure XJ (B:Bd) (w w':World):Prop where
 dB:Below B.lo w w'
 tab:w'.heap[B.tb]?=w.heap[B.tb]?
theorem XJ.trans{a b c:World}(h:XJ B a b)(k:XJ B b c):XJ B a c:=⟨h.dB.trans k.dB,k.tab.trans h.tab⟩
structure Mc (B:Bd) (mb ib fb:Nat) (sv fv:Value) (s:MS) (w:World):Prop where
 low:B.lo<=mb
 blk:w.heap[mb]?=some (.cells #[.pointer (some ⟨ib,0,none⟩),sv,fv,.int .i64 s.fuel,.int .i64 s.AY] 136 (0,0))
 stk:w.ownsRow B.lo 3 1 sv s.stack.length (Rj s.stack)
 frm:w.ownsRow B.lo 189 3 fv s.yB.length (Rk fb s.yB)
 ne1:sv.ownBlock≠some mb
 ne2:fv.ownBlock≠some mb
 ne3:∀k,sv.ownBlock=some k->fv.ownBlock≠some k
 Dw:B.tb<w.heap.size
 nm:mb≠B.tb
 ns:sv.ownBlock≠some B.tb
 nf:fv.ownBlock≠some B.tb
theorem aC{B:Nat}(h:Below B w w')(hb:b<B)(o:Nat):w'.cell? ⟨b,o,none⟩=w.cell? ⟨b,o,none⟩:=by
 simp only [World.cell?,h.block b hb]
theorem cN{e:TypeId}(h:w.ownsRow base e size v n xs)(hn:0<n):
  ∃g cap aU,v=.slice (some ⟨g,0,none⟩) n cap/\base<=g/\w.heap[g]?=some (.cells aU e (0,0))/\n<=cap/\cap<=maxLen/\aU.size=cap*size/\aU.toList.take (n*size)=xs:=by
 rcases h.2 with⟨_,h0⟩|⟨g,cap,aU,hh⟩
 ·omega
 exact⟨g,cap,aU,hh⟩
theorem ak{e:TypeId}(h:w.ownsRow base e size v n xs):∃o c,v=.slice o n c:=by
 rcases h.2 with⟨hv,h0⟩|⟨g,cap,aU,hv,_⟩
 ·exact⟨none,0,by rw [hv,h0]⟩
 exact⟨_,_,hv⟩
theorem dt{e:TypeId}(h:w.ownsRow base e size (.slice (some ⟨g,0,none⟩) n cap) n xs)(j:Nat)(hj:j<n*size):
  w.cell? ⟨g,j,none⟩=xs[j]?:=by
 rcases h.2 with⟨h,_⟩|⟨g0,lH,aU,hv,hb0,aed,vJ,hcm,hcs,iX⟩
 ·simp at h
 simp only [Value.slice.injEq,Option.some.injEq,Addr.mk.injEq]at hv;obtain⟨⟨rfl,_⟩,_,rfl⟩:=hv;rw [ae aed,<-iX,List.getElem?_take,if_pos hj];simp
theorem D_{e:TypeId}(h:w.ownsRow base e size (.slice (some ⟨g,0,none⟩) n cap) n xs)(m:Nat)(hm:m<=n):
  w.ownsRow base e size (.slice (some ⟨g,0,none⟩) m cap) m (xs.take (m*size)):=by
 have hle:m*size<=n*size:=Nat.mul_le_mul_right _ hm;refine⟨by rw [List.length_take,h.1];omega,?_⟩
 rcases h.2 with⟨h,_⟩|⟨g0,lH,aU,hv,hb0,aed,vJ,hcm,hcs,iX⟩
 ·simp at h
 simp only [Value.slice.injEq,Option.some.injEq,Addr.mk.injEq]at hv;obtain⟨⟨rfl,_⟩,_,rfl⟩:=hv;exact Or.inr ⟨g,cap,aU,rfl,hb0,aed,by omega,hcm,hcs,by rw [<-iX,List.take_take];congr 1;omega⟩
theorem jQ{e:TypeId}(h:w.ownsRow base e size (.slice (some ⟨g,0,none⟩) n cap) n xs)(j:Nat)(u:Value):
  (w.setCell ⟨g,j,none⟩ u).ownsRow base e size (.slice (some ⟨g,0,none⟩) n cap) n (xs.set j u):=by
 refine⟨by simpa using h.1,?_⟩
 rcases h.2 with⟨h,_⟩|⟨g0,lH,aU,hv,hb0,aed,vJ,hcm,hcs,iX⟩
 ·simp at h
 simp only [Value.slice.injEq,Option.some.injEq,Addr.mk.injEq]at hv;obtain⟨⟨rfl,_⟩,_,rfl⟩:=hv;refine Or.inr ⟨g,cap,_,rfl,hb0,ax aed j u,vJ,hcm,by simpa using hcs,?_⟩;rw [<-iX,Array.toList_setIfInBounds,List.take_set]
theorem bE{e:TypeId}(h:w.ownsRow base e size v n xs)(hk:∀k,v.ownBlock=some k->k<w.heap.size->w'.heap[k]?=w.heap[k]?):w'.ownsRow base e size v n xs:=by
 refine⟨h.1,?_⟩
 rcases h.2 with h|⟨g,cap,aU,hv,hb0,aed,rest⟩
 ·exact Or.inl h
 exact Or.inr ⟨g,cap,aU,hv,hb0,(hk g (by rw [hv];rfl) (af aed)).trans aed,rest⟩
theorem aG{e:TypeId}(h:w.ownsRow base e size v n xs)(k:Nat)(hk:v.ownBlock=some k):base<=k/\k<w.heap.size:=by
 rcases h.2 with⟨hv,_⟩|⟨g,cap,aU,hv,hb0,aed,rest⟩
 ·rw [hv]at hk;simp [Value.ownBlock]at hk
 rw [hv]at hk;simp [Value.ownBlock]at hk;subst hk;exact⟨hb0,af aed⟩
theorem Mc.lt{sv fv:Value}{s:MS}(h:Mc B mb ib fb sv fv s w):mb<w.heap.size:=af h.blk
def Vb(B:Bd)(mb ib fb:Nat)(w:World)(s':MS)(w':World):Prop:=XJ B w w'/\∃sv fv,Mc B mb ib fb sv fv s' w'
theorem Vb.trans{w1 w2:World}{s':MS}(h:XJ B w w1)(k:Vb B mb ib fb w1 s' w2):Vb B mb ib fb w s' w2:=⟨h.trans k.1,k.2⟩
theorem a8{e:TypeId}(h:w.ownsRow base e size v n xs)(hb:v.ownBlock≠some b)(o:Nat)(u:Value):(w.setCell ⟨b,o,none⟩ u).ownsRow base e size v n xs:=
 bE h λk e _=>Below.heap_setCell _ _ _ _ (by intro hk;exact hb (by rw [e];exact congrArg some hk))
theorem tK(w:World)(r:Option Nat):w.grownBy w r:=⟨rfl,rfl,rfl,Nat.le_refl _,λ_ _ _=>rfl⟩
theorem aA{r:Option Nat}{o:Obj}(h:(w.alloc o).grownBy w' r):w.grownBy w' r:=
 ⟨h.os,h.tape,h.output,by have:=h.size;simp at this;omega,λk hk hne=>(h.block k (by simp;omega) hne).trans (Below.heap_alloc _ _ _ hk)⟩
end Go.Proofs.YtpmmjkiclngpmaaGreatDoor
