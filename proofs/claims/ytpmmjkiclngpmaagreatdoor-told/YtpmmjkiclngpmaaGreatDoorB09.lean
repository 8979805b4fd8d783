/- YtpmmjkiclngpmaaGreatDoorB09 -/
import Derived.Test.YtpmmjkiclngpmaaGreatDoorB06
set_option maxRecDepth 100000
set_option linter.unusedSimpArgs false
set_option linter.unusedVariables false
set_option maxHeartbeats 12800000
namespace Go.Proofs.YtpmmjkiclngpmaaGreatDoor
open Tryz
open Go.RowKit
variable{w w':World}{uv qA:Value}{lo k:Nat}
structure Us where
 m:List UInt8
 n:List UInt8
 s:List UInt8
variable{lk:List Us}
def bo(l:List Us):List Value:=l.flatMap λx=> [.string ⟨x.m.toArray⟩,.string ⟨x.n.toArray⟩,.string ⟨x.s.toArray⟩]
theorem sZ(l:List Us)(x:Us):bo (l++ [x])=bo l++ [.string ⟨x.m.toArray⟩,.string ⟨x.n.toArray⟩,.string ⟨x.s.toArray⟩]:=by simp [bo]
def lq(l:List (Option Addr)):List Value:=l.map Value.pointer
structure VK where
 b:Nat
 nm:List UInt8
 mb:Nat
 iv:Value
 pts:List (Option Addr)
variable{V:VK}
structure Vw (lo:Nat) (V:VK) (lk:List Us) (uv:Value) (w:World):Prop where
 low:lo<=V.b
 blk:w.heap[V.b]?=some (.cells #[.string ⟨V.nm.toArray⟩,.pointer (some ⟨V.mb,0,none⟩),V.iv,uv] 214 (0,0))
 imp:w.ownsRow lo 105 1 V.iv V.pts.length (lq V.pts)
 Rn:w.ownsRow lo 185 3 uv lk.length (bo lk)
 n1:V.iv.ownBlock≠some V.b
 n2:uv.ownBlock≠some V.b
 n3:∀k,V.iv.ownBlock=some k->uv.ownBlock≠some k
def jG(V:VK)(uv:Value)(k:Nat):Prop:=k=V.b\/V.iv.ownBlock=some k\/uv.ownBlock=some k
theorem Vw.lt(h:Vw lo V lk uv w):V.b<w.heap.size:=af h.blk
theorem Vw.has(h:Vw lo V lk uv w)(hk:jG V uv k):lo<=k/\k<w.heap.size:=by
 rcases hk with rfl|hk|hk
 ·exact⟨h.low,h.lt⟩
 ·exact aG h.imp k hk
 exact aG h.Rn k hk
theorem pR{base:Nat}{e:TypeId}{size:Nat}{v:Value}{n:Nat}{xs:List Value}(h:w.ownsRow base e size v n xs)(hk:v.ownBlock=some k):∃c t f,w.heap[k]?=some (.cells c t f):=by
 rcases h.2 with⟨rfl,_⟩|⟨g,cap,aU,rfl,_,hg,_⟩
 ·simp [Value.ownBlock]at hk
 simp [Value.ownBlock]at hk;subst hk;exact⟨_,_,_,hg⟩
theorem Vw.Ro(h:Vw lo V lk uv w)(hk:jG V uv k):∃c t f,w.heap[k]?=some (.cells c t f):=by
 rcases hk with rfl|hk|hk
 ·exact⟨_,_,_,h.blk⟩
 ·exact pR h.imp hk
 exact pR h.Rn hk
theorem Vw.keep(h:Vw lo V lk uv w)(hk:∀k,jG V uv k->w'.heap[k]?=w.heap[k]?):Vw lo V lk uv w':=
 ⟨h.low,(hk _ (Or.inl rfl)).trans h.blk,bE h.imp (λk e _=>hk k (Or.inr (Or.inl e))),bE h.Rn (λk e _=>hk k (Or.inr (Or.inr e))),h.n1,h.n2,h.n3⟩
theorem Vw.below(h:Vw lo V lk uv w)(hb:Below w.heap.size w w'):Vw lo V lk uv w':=h.keep λk hk=>hb.block k (h.has hk).2
theorem Vw.drew(h:Vw lo V lk uv w):Vw lo V lk uv w.drew:=h.below ((Below.refl _ _).drew)
theorem Vw.alloc(h:Vw lo V lk uv w)(o:Obj):Vw lo V lk uv (w.alloc o):=h.below ((Below.refl _ _).alloc (Nat.le_refl _) _)
theorem Vw.set(h:Vw lo V lk uv w){b:Nat}(hb:∀k,jG V uv k->k≠b)(o:Nat)(u:Value):Vw lo V lk uv (w.setCell ⟨b,o,none⟩ u):=h.keep λk hk=>Below.heap_setCell _ _ _ _ (hb k hk)
theorem Vw.field(h:Vw lo V lk uv w):
  w.cell? ⟨V.b,0,none⟩=some (.string ⟨V.nm.toArray⟩)/\w.cell? ⟨V.b,1,none⟩=some (.pointer (some ⟨V.mb,0,none⟩))/\w.cell? ⟨V.b,2,none⟩=some V.iv/\w.cell? ⟨V.b,3,none⟩=some uv:=by
 refine⟨?_,?_,?_,?_⟩<;>rw [ae h.blk]<;>rfl
theorem Vw.pts(h:Vw lo V lk uv w):
  ∃io ic,V.iv=.slice io V.pts.length ic/\(0<V.pts.length->∃ib,io=some ⟨ib,0,none⟩/\ib<w.heap.size/\V.pts.length<=ic/\∀j,(hj:j<V.pts.length)->w.cell? ⟨ib,j,none⟩=some (.pointer V.pts[j])):=by
 rcases Nat.eq_zero_or_pos V.pts.length with h0|jR
 ·obtain⟨o,c,e⟩:=ak h.imp
  exact⟨o,c,e,λhp=>by omega⟩
 obtain⟨g,cap,aU,hv,xG,hg2,hg3,hg4,rR,Gp⟩:=cN h.imp jR;have ho:=h.imp;rw [hv]at ho;refine⟨_,_,hv,λ_=>⟨g,rfl,af hg2,hg3,λj hj=> ?_⟩⟩;rw [dt ho j (by omega)];simp [lq,hj]
structure fQ (V:VK) (uv qA:Value) (w w':World):Prop where
 os:w'.os=w.os
 tape:w'.tape=w.tape
 output:w'.output=w.output
 size:w.heap.size<=w'.heap.size
 block:∀k,k<w.heap.size->k≠V.b->uv.ownBlock≠some k->w'.heap[k]?=w.heap[k]?
 own:∀k,qA.ownBlock=some k->uv.ownBlock=some k\/w.heap.size<=k
theorem fQ.aW(h:Below w.heap.size w w'):fQ V uv uv w w':=⟨h.os,h.tape,h.output,h.size,λk hk _ _=>h.block k hk,λk hk=>Or.inl hk⟩
theorem fQ.refl:fQ V uv uv w w:=fQ.aW (Below.refl _ _)
theorem fQ.trans{u u' u'':Value}{a b c:World}(h:fQ V u u' a b)(k:fQ V u' u'' b c):fQ V u u'' a c:=
  ⟨k.os.trans h.os,k.tape.trans h.tape,k.output.trans h.output,Nat.le_trans h.size k.size,
   λi hi h1 h2=>(k.block i (Nat.lt_of_lt_of_le hi h.size) h1 (λe=>(h.own i e).elim h2 (λe'=>by omega))).trans (h.block i hi h1 h2),
   λi hi=>(k.own i hi).elim (λe=>h.own i e) (λe=>Or.inr (Nat.le_trans h.size e))⟩
theorem fQ.T6(h:fQ V uv qA w.drew w'):fQ V uv qA w w':=⟨h.os,h.tape,h.output,h.size,h.block,h.own⟩
theorem fQ.dB(h:fQ V uv qA w w')(hv:Vw lo V lk uv w):Below lo w w':=
 ⟨h.os,h.tape,h.output,h.size,λk hk=>h.block k (by have:=hv.low;have:=hv.lt;omega) (by have:=hv.low;omega) (λe=>by have:=(aG hv.Rn k e).1;omega)⟩
theorem Vw.put{w2:World}(h:Vw lo V lk uv w)(hg:w.grownBy w2 uv.ownBlock)(v':Value)(l:List Us)(ho:w2.ownsRow lo 185 3 v' l.length (bo l))(hw:∀k,v'.ownBlock=some k->uv.ownBlock=some k\/w.heap.size<=k):
  fQ V uv v' w (w2.setCell ⟨V.b,3,none⟩ v')/\Vw lo V l v' (w2.setCell ⟨V.b,3,none⟩ v'):=by
 have hlt:=h.lt
 have hv:v'.ownBlock≠some V.b:=λe=>(hw _ e).elim h.n2 (λh'=>by omega)
 refine⟨⟨hg.os,hg.tape,hg.output,by have:=hg.size;simpa [World.setCell]using this,λk hk h1 h2=>(Below.heap_setCell _ _ _ _ h1).trans (hg.block k hk (λe=>h2 e.symm)),hw⟩,⟨h.low,?_,?_,a8 ho hv _ _,h.n1,hv,λk hk e=>(hw k e).elim (h.n3 k hk) (λh'=>by have:=(aG h.imp k hk).2;omega)⟩⟩
 ·rw [ax ((hg.block _ hlt (λe=>h.n2 e.symm)).trans h.blk)];rfl
 exact a8 (bE h.imp λk e l=>hg.block k l (λe'=>h.n3 k e e'.symm)) h.n1 _ _
end Go.Proofs.YtpmmjkiclngpmaaGreatDoor
