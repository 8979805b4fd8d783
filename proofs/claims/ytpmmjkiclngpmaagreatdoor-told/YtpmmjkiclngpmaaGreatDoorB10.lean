/- YtpmmjkiclngpmaaGreatDoorB10 -/
import Derived.Test.YtpmmjkiclngpmaaGreatDoorB08
import Derived.Test.YtpmmjkiclngpmaaGreatDoorB09
import Derived.Deep.LoopGhost
set_option maxRecDepth 100000
set_option linter.unusedSimpArgs false
set_option linter.unusedVariables false
set_option maxHeartbeats 12800000
namespace Go.Proofs.YtpmmjkiclngpmaaGreatDoor
open Tryz
open Go.RowKit
variable{a b w w' w2:World}{sv kv lv pv:Value}{cb m n k l:Nat}{es:List Ex}{S:Nat->Prop}
structure Cb where
 lo:Nat
 tb:Nat->Prop
variable{B:Cb}
structure kU (B:Cb) (w w':World):Prop where
 dB:Below B.lo w w'
 tab:∀k,B.tb k->w'.heap[k]?=w.heap[k]?
theorem kU.refl(B:Cb)(w:World):kU B w w:=⟨Below.refl _ _,λ_ _=>rfl⟩
theorem kU.trans{c:World}(h:kU B a b)(k:kU B b c):kU B a c:=⟨h.dB.trans k.dB,λi hi=>(k.tab i hi).trans (h.tab i hi)⟩
theorem kU.drew(h:kU B a b):kU B a b.drew:=⟨h.dB.drew,h.tab⟩
theorem kU.of(h:Below w.heap.size w w')(h1:B.lo<=w.heap.size)(h2:∀k,B.tb k->k<w.heap.size):kU B w w':=⟨h.mono h1,λk hk=>h.block _ (h2 k hk)⟩
theorem gU(h:kU B a w){b:Nat}(hb:B.lo<=b)(ht:¬B.tb b)(o:Nat)(u:Value):kU B a (w.setCell ⟨b,o,none⟩ u):=
 ⟨h.dB.setCell (p:=⟨b,o,none⟩) hb u,λk hk=>(Below.heap_setCell w ⟨b,o,none⟩ u k (λ(e:k=b)=>ht (by rw [<-e];exact hk))).trans (h.tab k hk)⟩
structure CK where
 c0:Value
 c2:Value
 c3:Value
 c4:Value
 c5:Value
 c6:Value
 V:VK
variable{C:CK}
structure CS where
 az:List (List UInt8)
 aee:Nat
 aK:List (Nat×Int)
 bq:List (List UInt8×List UInt8)
 lk:List Us
variable{s s' t:CS}
def strCells(l:List (List UInt8)):List Value:=l.map λt=> .string ⟨t.toArray⟩
def cX(l:List (Nat×Int)):List Value:=l.flatMap λx=> [.int .i64 x.1,.int .i64 x.2]
def fR(l:List (List UInt8×List UInt8)):List Value:=l.flatMap λx=> [.string ⟨x.1.toArray⟩,.string ⟨x.2.toArray⟩]
theorem A4(l:List (Nat×Int))(x:Nat×Int):cX (l++ [x])=cX l++ [.int .i64 x.1,.int .i64 x.2]:=by simp [cX]
theorem A5(l:List (List UInt8))(x:List UInt8):strCells (l++ [x])=strCells l++ [.string ⟨x.toArray⟩]:=by simp [strCells]
theorem A6(l:List (List UInt8×List UInt8))(x:List UInt8×List UInt8):fR (l++ [x])=fR l++ [.string ⟨x.1.toArray⟩,.string ⟨x.2.toArray⟩]:=by simp [fR]
structure Cd (B:Cb) (cb:Nat) (C:CK) (s:CS) (sv kv lv:Value) (w:World):Prop where
 low:B.lo<=cb
 blk:w.heap[cb]?=some (.cells #[C.c0,sv,C.c2,C.c3,C.c4,C.c5,C.c6,.int .i64 s.aee,kv,lv] 308 (0,0))
 oV:w.ownsRow B.lo 9 1 sv s.az.length (strCells s.az)
 uD:w.ownsRow B.lo 196 2 kv s.aK.length (cX s.aK)
 tM:w.ownsRow B.lo 87 2 lv s.bq.length (fR s.bq)
 n1:sv.ownBlock≠some cb
 n2:kv.ownBlock≠some cb
 n3:lv.ownBlock≠some cb
 d1:∀k,sv.ownBlock=some k->kv.ownBlock≠some k
 d2:∀k,sv.ownBlock=some k->lv.ownBlock≠some k
 d3:∀k,kv.ownBlock=some k->lv.ownBlock≠some k
 Dw:∀k,B.tb k->k<w.heap.size
 nm:¬B.tb cb
 t1:∀k,sv.ownBlock=some k->¬B.tb k
 t2:∀k,kv.ownBlock=some k->¬B.tb k
 t3:∀k,lv.ownBlock=some k->¬B.tb k
 vw:∃uv,Vw B.lo C.V s.lk uv w/\∀k,jG C.V uv k->k≠cb/\sv.ownBlock≠some k/\kv.ownBlock≠some k/\lv.ownBlock≠some k/\(k=C.V.b\/uv.ownBlock=some k->¬B.tb k)
theorem Cd.lt(h:Cd B cb C s sv kv lv w):cb<w.heap.size:=af h.blk
theorem Cd.below(h:Cd B cb C s sv kv lv w)(hb:Below w.heap.size w w'):Cd B cb C s sv kv lv w':=
 ⟨h.low,(hb.block _ h.lt).trans h.blk,bE h.oV (λk _ l=>hb.block k l),bE h.uD (λk _ l=>hb.block k l),bE h.tM (λk _ l=>hb.block k l),h.n1,h.n2,h.n3,h.d1,h.d2,h.d3,λk hk=>Nat.lt_of_lt_of_le (h.Dw k hk) hb.size,h.nm,h.t1,h.t2,h.t3,by obtain⟨uv,hv,hd⟩:=h.vw;exact⟨uv,hv.below hb,hd⟩⟩
theorem Cd.alloc(h:Cd B cb C s sv kv lv w)(o:Obj):Cd B cb C s sv kv lv (w.alloc o):=h.below ((Below.refl _ _).alloc (Nat.le_refl _) _)
theorem Cd.drew(h:Cd B cb C s sv kv lv w):Cd B cb C s sv kv lv w.drew:=h.below ((Below.refl _ _).drew)
theorem Cd.field(h:Cd B cb C s sv kv lv w):
  w.cell? ⟨cb,0,none⟩=some C.c0/\w.cell? ⟨cb,1,none⟩=some sv/\w.cell? ⟨cb,7,none⟩=some (.int .i64 s.aee)/\w.cell? ⟨cb,8,none⟩=some kv/\w.cell? ⟨cb,9,none⟩=some lv:=by
 refine⟨?_,?_,?_,?_,?_⟩<;>rw [ae h.blk]<;>rfl
theorem Cd.mL(h:Cd B cb C s sv kv lv w)(hg:w.grownBy w2 sv.ownBlock)(v':Value)(l:List (List UInt8))(ho:w2.ownsRow B.lo 9 1 v' l.length (strCells l))(hw:∀k,v'.ownBlock=some k->sv.ownBlock=some k\/w.heap.size<=k):
  kU B w (w2.setCell ⟨cb,1,none⟩ v')/\Cd B cb C {s with az:=l} v' kv lv (w2.setCell ⟨cb,1,none⟩ v'):=by
 have Aj:=h.lt;have nK:=h.low;have hown:=h.oV
 have T7:∀k,sv.ownBlock=some k->¬B.tb k:=by first|exact h.t1|exact h.t2|exact h.t3
 have hbl:kU B w w2:=⟨⟨hg.os,hg.tape,hg.output,hg.size,λk hk=>hg.block k (by omega) (λe=>by have:=(aG hown k e.symm).1;omega)⟩,λk hk=>hg.block _ (h.Dw k hk) (λe=>T7 k e.symm hk)⟩
 have vS:∀k,v'.ownBlock=some k->¬B.tb k:=λk e hk=>(hw _ e).elim (λh'=>T7 k h' hk) (λh'=>by have:=h.Dw k hk;omega)
 have hne:sv.ownBlock≠some cb:=by first|exact h.n1|exact h.n2|exact h.n3
 have hv:v'.ownBlock≠some cb:=λe=>(hw _ e).elim (λh'=>hne h') (λh'=>by omega)
 have Ak:∀(k:Nat),k<w.heap.size->sv.ownBlock≠some k->w2.heap[k]?=w.heap[k]?:=λk hk e=>hg.block k hk (λe'=>e e'.symm)
 have b1:=aG h.oV;have b2:=aG h.uD;have b3:=aG h.tM;have d1:=h.d1;have d2:=h.d2;have d3:=h.d3
 refine⟨gU hbl nK h.nm _ _,⟨nK,?_,?_,?_,?_,?_,?_,?_,?_,?_,?_,λk hk=>(by have:=hg.size;have:=h.Dw k hk;simp [World.setCell];omega),h.nm,by first|exact vS|exact h.t1,by first|exact vS|exact h.t2,by first|exact vS|exact h.t3,?_⟩⟩
 ·rw [ax ((Ak _ Aj hne).trans h.blk)];rfl
 ·first
  |exact a8 ho hv _ _
  |exact a8 (bE h.oV λk e l=>Ak k l (by intro e';first|exact d1 k e e'|exact d2 k e e'|exact d3 k e e')) h.n1 _ _
 ·first
  |exact a8 ho hv _ _
  |exact a8 (bE h.uD λk e l=>Ak k l (by intro e';first|exact d1 k e' e|exact d3 k e e'|exact d2 k e e')) h.n2 _ _
 ·first
  |exact a8 ho hv _ _
  |exact a8 (bE h.tM λk e l=>Ak k l (by intro e';first|exact d2 k e' e|exact d3 k e' e)) h.n3 _ _
 ·first|exact hv|exact h.n1
 ·first|exact hv|exact h.n2
 ·first|exact hv|exact h.n3
 ·first
  |exact d1
  |exact λk e e2=>(hw k e).elim (λh'=>d1 k h' e2) (λh'=>by have:=(b2 k e2).2;omega)
  |exact λk e e2=>(hw k e2).elim (λh'=>d1 k e h') (λh'=>by have:=(b1 k e).2;omega)
 ·first
  |exact d2
  |exact λk e e2=>(hw k e).elim (λh'=>d2 k h' e2) (λh'=>by have:=(b3 k e2).2;omega)
  |exact λk e e2=>(hw k e2).elim (λh'=>d2 k e h') (λh'=>by have:=(b1 k e).2;omega)
 ·first
  |exact d3
  |exact λk e e2=>(hw k e).elim (λh'=>d3 k h' e2) (λh'=>by have:=(b3 k e2).2;omega)
  |exact λk e e2=>(hw k e2).elim (λh'=>d3 k e h') (λh'=>by have:=(b2 k e).2;omega)
 obtain⟨uv,hu,hd⟩:=h.vw
 have T8:∀k,jG C.V uv k->sv.ownBlock≠some k:=λk hk=>by first|exact(hd k hk).2.1|exact(hd k hk).2.2.1|exact(hd k hk).2.2.2.1
 have uE:∀k,jG C.V uv k->v'.ownBlock≠some k:=λk hk e=>(hw k e).elim (T8 k hk) (λe'=>by have:=(hu.has hk).2;omega)
 exact⟨uv,(hu.keep (λk hk=>Ak k (hu.has hk).2 (T8 k hk))).set (λk hk=>(hd k hk).1) _ _,λk hk=>⟨(hd k hk).1,by first|exact uE k hk|exact(hd k hk).2.1,by first|exact uE k hk|exact(hd k hk).2.2.1,by first|exact uE k hk|exact(hd k hk).2.2.2.1,(hd k hk).2.2.2.2⟩⟩
theorem Cd.Rq(h:Cd B cb C s sv kv lv w)(hg:w.grownBy w2 kv.ownBlock)(v':Value)(l:List (Nat×Int))(ho:w2.ownsRow B.lo 196 2 v' l.length (cX l))(hw:∀k,v'.ownBlock=some k->kv.ownBlock=some k\/w.heap.size<=k):
  kU B w (w2.setCell ⟨cb,8,none⟩ v')/\Cd B cb C {s with aK:=l} sv v' lv (w2.setCell ⟨cb,8,none⟩ v'):=by
 have Aj:=h.lt;have nK:=h.low;have hown:=h.uD
 have T7:∀k,kv.ownBlock=some k->¬B.tb k:=by first|exact h.t1|exact h.t2|exact h.t3
 have hbl:kU B w w2:=⟨⟨hg.os,hg.tape,hg.output,hg.size,λk hk=>hg.block k (by omega) (λe=>by have:=(aG hown k e.symm).1;omega)⟩,λk hk=>hg.block _ (h.Dw k hk) (λe=>T7 k e.symm hk)⟩
 have vS:∀k,v'.ownBlock=some k->¬B.tb k:=λk e hk=>(hw _ e).elim (λh'=>T7 k h' hk) (λh'=>by have:=h.Dw k hk;omega)
 have hne:kv.ownBlock≠some cb:=by first|exact h.n1|exact h.n2|exact h.n3
 have hv:v'.ownBlock≠some cb:=λe=>(hw _ e).elim (λh'=>hne h') (λh'=>by omega)
 have Ak:∀(k:Nat),k<w.heap.size->kv.ownBlock≠some k->w2.heap[k]?=w.heap[k]?:=λk hk e=>hg.block k hk (λe'=>e e'.symm)
 have b1:=aG h.oV;have b2:=aG h.uD;have b3:=aG h.tM;have d1:=h.d1;have d2:=h.d2;have d3:=h.d3
 refine⟨gU hbl nK h.nm _ _,⟨nK,?_,?_,?_,?_,?_,?_,?_,?_,?_,?_,λk hk=>(by have:=hg.size;have:=h.Dw k hk;simp [World.setCell];omega),h.nm,by first|exact vS|exact h.t1,by first|exact vS|exact h.t2,by first|exact vS|exact h.t3,?_⟩⟩
 ·rw [ax ((Ak _ Aj hne).trans h.blk)];rfl
 ·first
  |exact a8 ho hv _ _
  |exact a8 (bE h.oV λk e l=>Ak k l (by intro e';first|exact d1 k e e'|exact d2 k e e'|exact d3 k e e')) h.n1 _ _
 ·first
  |exact a8 ho hv _ _
  |exact a8 (bE h.uD λk e l=>Ak k l (by intro e';first|exact d1 k e' e|exact d3 k e e'|exact d2 k e e')) h.n2 _ _
 ·first
  |exact a8 ho hv _ _
  |exact a8 (bE h.tM λk e l=>Ak k l (by intro e';first|exact d2 k e' e|exact d3 k e' e)) h.n3 _ _
 ·first|exact hv|exact h.n1
 ·first|exact hv|exact h.n2
 ·first|exact hv|exact h.n3
 ·first
  |exact d1
  |exact λk e e2=>(hw k e).elim (λh'=>d1 k h' e2) (λh'=>by have:=(b2 k e2).2;omega)
  |exact λk e e2=>(hw k e2).elim (λh'=>d1 k e h') (λh'=>by have:=(b1 k e).2;omega)
 ·first
  |exact d2
  |exact λk e e2=>(hw k e).elim (λh'=>d2 k h' e2) (λh'=>by have:=(b3 k e2).2;omega)
  |exact λk e e2=>(hw k e2).elim (λh'=>d2 k e h') (λh'=>by have:=(b1 k e).2;omega)
 ·first
  |exact d3
  |exact λk e e2=>(hw k e).elim (λh'=>d3 k h' e2) (λh'=>by have:=(b3 k e2).2;omega)
  |exact λk e e2=>(hw k e2).elim (λh'=>d3 k e h') (λh'=>by have:=(b2 k e).2;omega)
 obtain⟨uv,hu,hd⟩:=h.vw
 have T8:∀k,jG C.V uv k->kv.ownBlock≠some k:=λk hk=>by first|exact(hd k hk).2.1|exact(hd k hk).2.2.1|exact(hd k hk).2.2.2.1
 have uE:∀k,jG C.V uv k->v'.ownBlock≠some k:=λk hk e=>(hw k e).elim (T8 k hk) (λe'=>by have:=(hu.has hk).2;omega)
 exact⟨uv,(hu.keep (λk hk=>Ak k (hu.has hk).2 (T8 k hk))).set (λk hk=>(hd k hk).1) _ _,λk hk=>⟨(hd k hk).1,by first|exact uE k hk|exact(hd k hk).2.1,by first|exact uE k hk|exact(hd k hk).2.2.1,by first|exact uE k hk|exact(hd k hk).2.2.2.1,(hd k hk).2.2.2.2⟩⟩
theorem Cd.Ng(h:Cd B cb C s sv kv lv w)(hg:w.grownBy w2 lv.ownBlock)(v':Value)(l:List (List UInt8×List UInt8))(ho:w2.ownsRow B.lo 87 2 v' l.length (fR l))(hw:∀k,v'.ownBlock=some k->lv.ownBlock=some k\/w.heap.size<=k):
  kU B w (w2.setCell ⟨cb,9,none⟩ v')/\Cd B cb C {s with bq:=l} sv kv v' (w2.setCell ⟨cb,9,none⟩ v'):=by
 have Aj:=h.lt;have nK:=h.low;have hown:=h.tM
 have T7:∀k,lv.ownBlock=some k->¬B.tb k:=by first|exact h.t1|exact h.t2|exact h.t3
 have hbl:kU B w w2:=⟨⟨hg.os,hg.tape,hg.output,hg.size,λk hk=>hg.block k (by omega) (λe=>by have:=(aG hown k e.symm).1;omega)⟩,λk hk=>hg.block _ (h.Dw k hk) (λe=>T7 k e.symm hk)⟩
 have vS:∀k,v'.ownBlock=some k->¬B.tb k:=λk e hk=>(hw _ e).elim (λh'=>T7 k h' hk) (λh'=>by have:=h.Dw k hk;omega)
 have hne:lv.ownBlock≠some cb:=by first|exact h.n1|exact h.n2|exact h.n3
 have hv:v'.ownBlock≠some cb:=λe=>(hw _ e).elim (λh'=>hne h') (λh'=>by omega)
 have Ak:∀(k:Nat),k<w.heap.size->lv.ownBlock≠some k->w2.heap[k]?=w.heap[k]?:=λk hk e=>hg.block k hk (λe'=>e e'.symm)
 have b1:=aG h.oV;have b2:=aG h.uD;have b3:=aG h.tM;have d1:=h.d1;have d2:=h.d2;have d3:=h.d3
 refine⟨gU hbl nK h.nm _ _,⟨nK,?_,?_,?_,?_,?_,?_,?_,?_,?_,?_,λk hk=>(by have:=hg.size;have:=h.Dw k hk;simp [World.setCell];omega),h.nm,by first|exact vS|exact h.t1,by first|exact vS|exact h.t2,by first|exact vS|exact h.t3,?_⟩⟩
 ·rw [ax ((Ak _ Aj hne).trans h.blk)];rfl
 ·first
  |exact a8 ho hv _ _
  |exact a8 (bE h.oV λk e l=>Ak k l (by intro e';first|exact d1 k e e'|exact d2 k e e'|exact d3 k e e')) h.n1 _ _
 ·first
  |exact a8 ho hv _ _
  |exact a8 (bE h.uD λk e l=>Ak k l (by intro e';first|exact d1 k e' e|exact d3 k e e'|exact d2 k e e')) h.n2 _ _
 ·first
  |exact a8 ho hv _ _
  |exact a8 (bE h.tM λk e l=>Ak k l (by intro e';first|exact d2 k e' e|exact d3 k e' e)) h.n3 _ _
 ·first|exact hv|exact h.n1
 ·first|exact hv|exact h.n2
 ·first|exact hv|exact h.n3
 ·first
  |exact d1
  |exact λk e e2=>(hw k e).elim (λh'=>d1 k h' e2) (λh'=>by have:=(b2 k e2).2;omega)
  |exact λk e e2=>(hw k e2).elim (λh'=>d1 k e h') (λh'=>by have:=(b1 k e).2;omega)
 ·first
  |exact d2
  |exact λk e e2=>(hw k e).elim (λh'=>d2 k h' e2) (λh'=>by have:=(b3 k e2).2;omega)
  |exact λk e e2=>(hw k e2).elim (λh'=>d2 k e h') (λh'=>by have:=(b1 k e).2;omega)
 ·first
  |exact d3
  |exact λk e e2=>(hw k e).elim (λh'=>d3 k h' e2) (λh'=>by have:=(b3 k e2).2;omega)
  |exact λk e e2=>(hw k e2).elim (λh'=>d3 k e h') (λh'=>by have:=(b2 k e).2;omega)
 obtain⟨uv,hu,hd⟩:=h.vw
 have T8:∀k,jG C.V uv k->lv.ownBlock≠some k:=λk hk=>by first|exact(hd k hk).2.1|exact(hd k hk).2.2.1|exact(hd k hk).2.2.2.1
 have uE:∀k,jG C.V uv k->v'.ownBlock≠some k:=λk hk e=>(hw k e).elim (T8 k hk) (λe'=>by have:=(hu.has hk).2;omega)
 exact⟨uv,(hu.keep (λk hk=>Ak k (hu.has hk).2 (T8 k hk))).set (λk hk=>(hd k hk).1) _ _,λk hk=>⟨(hd k hk).1,by first|exact uE k hk|exact(hd k hk).2.1,by first|exact uE k hk|exact(hd k hk).2.2.1,by first|exact uE k hk|exact(hd k hk).2.2.2.1,(hd k hk).2.2.2.2⟩⟩
theorem Cd.Ea(h:Cd B cb C s sv kv lv w)(n:Nat)(v:Int)(hv:v=n):
  kU B w (w.setCell ⟨cb,7,none⟩ (.int .i64 v))/\Cd B cb C {s with aee:=n} sv kv lv (w.setCell ⟨cb,7,none⟩ (.int .i64 v)):=by
 refine⟨gU (kU.refl _ _) h.low h.nm _ _,⟨h.low,?_,a8 h.oV h.n1 _ _,a8 h.uD h.n2 _ _,a8 h.tM h.n3 _ _,h.n1,h.n2,h.n3,h.d1,h.d2,h.d3,λk hk=>(by have:=h.Dw k hk;simpa [World.setCell]using this),h.nm,h.t1,h.t2,h.t3,by obtain⟨uv,hu,hd⟩:=h.vw;exact⟨uv,hu.set (λk hk=>(hd k hk).1) _ _,hd⟩⟩⟩;rw [ax h.blk,hv];rfl
def CS.pS(s:CS)(u:List Us):CS:={s with lk:=s.lk++u}
theorem Cd.found(h:Cd B cb C s sv kv lv w){uv qA:Value}(hv:Vw B.lo C.V s.lk uv w)(hd:∀k,jG C.V uv k->k≠cb/\sv.ownBlock≠some k/\kv.ownBlock≠some k/\lv.ownBlock≠some k/\(k=C.V.b\/uv.ownBlock=some k->¬B.tb k)){u:List Us}(hm:fQ C.V uv qA w w')(hv':Vw B.lo C.V (s.lk++u) qA w'):
  kU B w w'/\Cd B cb C (s.pS u) sv kv lv w':=by
 have hlt:=h.lt
 have key:∀k,k<w.heap.size->(k=C.V.b\/uv.ownBlock=some k->False)->w'.heap[k]?=w.heap[k]?:=λk hk e=>hm.block k hk (λe'=>e (Or.inl e')) (λe'=>e (Or.inr e'))
 have kV:∀k,(k=C.V.b\/uv.ownBlock=some k)->jG C.V uv k:=λk e=>e.elim Or.inl (λe=>Or.inr (Or.inr e))
 refine⟨⟨hm.dB hv,λk hk=>key k (h.Dw k hk) (λe=>(hd k (kV k e)).2.2.2.2 e hk)⟩,⟨h.low,(key _ hlt (λe=>(hd _ (kV _ e)).1 rfl)).trans h.blk,bE h.oV (λk e l=>key k l (λe'=>(hd k (kV k e')).2.1 e)),bE h.uD (λk e l=>key k l (λe'=>(hd k (kV k e')).2.2.1 e)),bE h.tM (λk e l=>key k l (λe'=>(hd k (kV k e')).2.2.2.1 e)),h.n1,h.n2,h.n3,h.d1,h.d2,h.d3,λk hk=>Nat.lt_of_lt_of_le (h.Dw k hk) hm.size,h.nm,h.t1,h.t2,h.t3,qA,hv',λk hk=> ?_⟩⟩
 have new:w.heap.size<=k->k≠cb/\sv.ownBlock≠some k/\kv.ownBlock≠some k/\lv.ownBlock≠some k/\(k=C.V.b\/qA.ownBlock=some k->¬B.tb k):=λe=>
  ⟨by omega,λe'=>by have:=(aG h.oV k e').2;omega,λe'=>by have:=(aG h.uD k e').2;omega,λe'=>by have:=(aG h.tM k e').2;omega,λ_ hk=>by have:=h.Dw k hk;omega⟩
 have old:jG C.V uv k->k≠cb/\sv.ownBlock≠some k/\kv.ownBlock≠some k/\lv.ownBlock≠some k/\(k=C.V.b\/qA.ownBlock=some k->¬B.tb k):=λe=>by
  obtain⟨a,b,c,d,f⟩:=hd k e;exact⟨a,b,c,d,λe'=>e'.elim (λe'=>f (Or.inl e')) (λe'=>(hm.own k e').elim (λe''=>f (Or.inr e'')) (λe'' hk=>by have:=h.Dw k hk;omega))⟩
 rcases hk with hk|hk|hk
 ·exact old (Or.inl hk)
 ·exact old (Or.inr (Or.inl hk))
 exact(hm.own k hk).elim (λe=>old (Or.inr (Or.inr e))) new
def cM(B:Cb)(cb:Nat)(C:CK)(w:World)(s':CS)(w':World):Prop:=kU B w w'/\∃sv kv lv,Cd B cb C s' sv kv lv w'
theorem cM.mk(h:kU B w w'/\Cd B cb C s' sv kv lv w'):cM B cb C w s' w':=⟨h.1,_,_,_,h.2⟩
theorem cM.trans{w1:World}(h:kU B w w1)(k:cM B cb C w1 s' w2):cM B cb C w s' w2:=⟨h.trans k.1,k.2⟩
theorem Nh:(prog.info? 196).map (λi=>(i.zero,i.size,i.bytes))=some (some (.agg #[.int .i64 0,.int .i64 0]),2,16):=by kernel_rfl
theorem yE:(prog.info? 9).map (λi=>(i.zero,i.size,i.bytes))=some (some (.string ⟨#[]⟩),1,16):=by kernel_rfl
theorem Ni:(prog.info? 87).map (λi=>(i.zero,i.size,i.bytes))=some (some (.agg #[.string ⟨#[]⟩,.string ⟨#[]⟩]),2,32):=by kernel_rfl
theorem pT(w:World)(a b:Value)(t:TypeId):∀j u,[a,b][j]?=some u->(w.alloc (.cells #[a,b] t)).cell? ((⟨w.heap.size,0,none⟩:Addr).add j)=some u:=by
 intro j u hj
 match j,hj with
 |0,hj=>simp at hj;subst hj;simp [Addr.add]
 |1,hj=>simp at hj;subst hj;simp [Addr.add]
theorem pU(w:World)(a:Value)(t:TypeId):∀j u,[a][j]?=some u->(w.alloc (.cells #[a] t)).cell? ((⟨w.heap.size,0,none⟩:Addr).add j)=some u:=by
 intro j u hj
 match j,hj with
 |0,hj=>simp at hj;subst hj;simp [Addr.add]
theorem uF{g c:Nat}{r:Option Nat}(h:r=some g\/m<=g):∀k,(Value.slice (some ⟨g,0,none⟩) n c).ownBlock=some k->r=some k\/m<=k:=by
 intro k e;simp only [Value.ownBlock,Option.some.injEq]at e;subst e;exact h
theorem Nj(B:Cb)(cb:Nat)(C:CK)(s:CS)(sv kv lv:Value)(w:World)(h:Cd B cb C s sv kv lv w)(op:Nat)(v:Int)(hl:s.aK.length<=1000000):
  Calls prog 180 #[.pointer (some ⟨cb,0,none⟩),.int .i64 op,.int .i64 v] w λe w'=>
   e=.returned (.int .i64 s.aK.length)/\cM B cb C w {s with aK:=s.aK++ [(op,v)]} w':=by
 have h1:=h.lt;have h2:=h.low;obtain⟨f0,f1,f7,f8,f9⟩:=h.field;have g0:=aj h.blk;have HM:=aa h;clear h;obtain⟨i0,hi,hz0,hz1,hz2⟩:=info_parts Nh;obtain⟨so,sc,rfl⟩:=ak HM.o.uD
 go_enter func180,ntmps180
 go_wp2_with (at_builtin;refine bC _ rfl _ _ 89 rfl B.lo 196 i0 (.agg #[.int .i64 0,.int .i64 0]) 2 16 underlying89 hi hz0 hz1 hz2 rfl (by decide) _ _ _ rfl (HM.o.alloc _).uD ⟨w.heap.size,0,none⟩ 1 1 [.int .i64 op,.int .i64 v] rfl rfl (pT w _ _ _) ?c2 (by decide) ?c3 ?c4 ?c5 ?_)
 case c2=>intro u hu;simp at hu;rcases hu with rfl|rfl<;>rfl
 case c3=>unfold maxLen;omega
 case c4=>omega
 case c5=>first|omega|(simp;omega)
 intro g' cap' w2 hown aB aJ
 have HB:=aa (HM.o.Rq (aA aB) (.slice (some ⟨g',0,none⟩) (s.aK.length+1) cap') (s.aK++ [(op,v)]) (by rw [A4,List.length_append];exact hown) (λk e=>(uF aJ k e).imp id (λh=>by first|omega|(simp at h;omega))))
 have fO:=((aA aB).block _ h1 (λe=>HM.o.n2 e.symm)).trans HM.o.blk;have k8:=ae fO 8;have kf:=aj fO;have hs2:=af fO;simp at k8;clear hown aB aJ fO;go_wp2;go_ret;exact⟨bR (by omega),cM.mk HB.o⟩
theorem AZ(B:Cb)(cb:Nat)(C:CK)(s:CS)(sv kv lv:Value)(w:World)(h:Cd B cb C s sv kv lv w)(ag:List UInt8)(hl:s.az.length<=1000000)(hs:s.aee<=1000000):
  Calls prog 178 #[.pointer (some ⟨cb,0,none⟩),.string ⟨ag.toArray⟩] w λe w'=>
   e=.returned (.int .i64 s.az.length)/\cM B cb C w {s with az:=s.az++ [ag],aee:=max s.aee (s.az.length+1)} w':=by
 have h1:=h.lt;have h2:=h.low;obtain⟨f0,f1,f7,f8,f9⟩:=h.field;have g0:=aj h.blk;have HM:=aa h;clear h;obtain⟨i0,hi,hz0,hz1,hz2⟩:=info_parts yE;obtain⟨so,sc,rfl⟩:=ak HM.o.oV
 go_enter func178,ntmps178
 go_wp2_with (at_builtin;refine bC _ rfl _ _ 58 rfl B.lo 9 i0 (.string ⟨#[]⟩) 1 16 underlying58 hi hz0 hz1 hz2 rfl (by decide) _ _ _ rfl (HM.o.alloc _).oV ⟨w.heap.size,0,none⟩ 1 1 [.string ⟨ag.toArray⟩] rfl rfl (pU w _ _) ?c2 (by decide) ?c3 ?c4 ?c5 ?_)
 case c2=>intro u hu;simp at hu;subst hu;rfl
 case c3=>unfold maxLen;omega
 case c4=>omega
 case c5=>first|omega|(simp;omega)
 intro g' cap' w2 hown aB aJ
 have HB:=aa (HM.o.mL (aA aB) (.slice (some ⟨g',0,none⟩) (s.az.length+1) cap') (s.az++ [ag]) (by rw [A5,List.length_append];exact hown) (λk e=>(uF aJ k e).imp id (λh=>by first|omega|(simp at h;omega))))
 have fO:=((aA aB).block _ h1 (λe=>HM.o.n1 e.symm)).trans HM.o.blk;have k1:=ae fO 1;have k7:=ae fO 7;have kf:=aj fO;have hs2:=af fO;simp at k1 k7;clear hown aB aJ fO f0 f1 f7 f8 f9 g0
 go_wp2_with fail
 generalize hw3:w2.setCell ⟨cb,1,none⟩ (.slice (some ⟨g',0,none⟩) (s.az.length+1) cap')=w3 at HB⊢;have dy:=aa HB.o.1;have Dx:=aa HB.o.2;clear hw3 HB k1 k7 kf;obtain⟨f0,f1,f7,f8,f9⟩:=Dx.o.field;have g0:=aj Dx.o.blk;have h3:=Dx.o.lt
 rcases Nat.lt_or_ge s.aee (s.az.length+1)with hlt|dG
 ·have HP:=aa (Dx.o.Ea (s.az.length+1) ((s.az.length:Int)+1) (by omega))
  have HX:=aa (show max s.aee (s.az.length+1)=s.az.length+1 by omega);simp only at f7
  have q1:(s.aee:Int)<(s.az.length:Int)+1:=by omega
  have q2:¬(s.az.length:Int)+1<(s.aee:Int):=by omega
  have q3:max (s.aee:Int) ((s.az.length:Int)+1)=(s.az.length:Int)+1:=by omega
  go_region
  all_goals
   (try go_wp2)
   go_ret
   exact⟨bR (by omega),by first|exact cM.mk ⟨dy.o.trans HP.o.1.drew,HP.o.2.drew⟩|(rw [HX.o];exact cM.mk ⟨dy.o.trans HP.o.1.drew,HP.o.2.drew⟩)⟩
 have HP:=aa (Dx.o.Ea s.aee (s.aee:Int) rfl);have HX:=aa (show max s.aee (s.az.length+1)=s.aee by omega);simp only at f7
 have q1:¬(s.aee:Int)<(s.az.length:Int)+1:=by omega
 have q3:max (s.aee:Int) ((s.az.length:Int)+1)=(s.aee:Int):=by omega
 go_region
 all_goals
  (try go_wp2)
  go_ret
  exact⟨bR (by omega),by first|exact cM.mk ⟨dy.o.trans HP.o.1.drew,HP.o.2.drew⟩|(rw [HX.o];exact cM.mk ⟨dy.o.trans HP.o.1.drew,HP.o.2.drew⟩)⟩
theorem qP(l:List (Nat×Int))(j:Nat)(hj:j<l.length):(cX l)[j*2]?=some (.int .i64 l[j].1)/\(cX l)[j*2+1]?=some (.int .i64 l[j].2):=by
 induction l generalizing j with
 |nil=>simp at hj
 |cons x r ih=>
  rw [show cX (x::r)=.int .i64 x.1:: .int .i64 x.2::cX r from rfl]
  cases j with
  |zero=>exact⟨rfl,rfl⟩
  |succ j=>
   have:=ih j (by simpa using hj);rw [show(j+1)*2=j*2+1+1 by omega];simpa using this
theorem uG(l:List (Nat×Int))(j:Nat)(hj:j<l.length)(v:Int):(cX l).set (j*2+1) (.int .i64 v)=cX (l.set j (l[j].1,v)):=by
 induction l generalizing j with
 |nil=>simp at hj
 |cons x r ih=>
  rw [show cX (x::r)=.int .i64 x.1:: .int .i64 x.2::cX r from rfl]
  cases j with
  |zero=>rfl
  |succ j=>
   have:=ih j (by simpa using hj);rw [show(j+1)*2=j*2+1+1 by omega];simp only [List.set_cons_succ,List.getElem_cons_succ,this]
   rfl
theorem Cd.Rs{d dc:Nat}(h:Cd B cb C s sv (.slice (some ⟨d,0,none⟩) n dc) lv w)(j:Nat)(hj:j<s.aK.length)(v:Int):
  kU B w (w.setCell ⟨d,j*2+1,none⟩ (.int .i64 v))/\Cd B cb C {s with aK:=s.aK.set j (s.aK[j].1,v)} sv (.slice (some ⟨d,0,none⟩) n dc) lv (w.setCell ⟨d,j*2+1,none⟩ (.int .i64 v)):=by
 have hs:=h.uD
 have hn:n=s.aK.length:=by
  obtain⟨o,c,e⟩:=ak hs;simp only [Value.slice.injEq]at e;exact e.2.1
 subst hn;have nK:=(aG hs d rfl).1
 have hdm:d≠cb:=λe=>h.n2 (by rw [e];rfl)
 refine⟨gU (kU.refl _ _) nK (h.t2 d rfl) _ _,⟨h.low,?_,a8 h.oV (λe=>h.d1 d e rfl) _ _,?_,a8 h.tM (h.d3 d rfl) _ _,h.n1,h.n2,h.n3,h.d1,h.d2,h.d3,λk hk=>(by have:=h.Dw k hk;simpa [World.setCell]using this),h.nm,h.t1,h.t2,h.t3,by obtain⟨uv,hu,hd⟩:=h.vw;exact⟨uv,hu.set (λk hk e=>(hd k hk).2.2.1 (by rw [e];rfl)) _ _,hd⟩⟩⟩
 ·rw [Below.heap_setCell _ _ _ _ (Ne.symm hdm)];exact h.blk
 have:=jQ hs (j*2+1) (.int .i64 v);rw [uG _ _ hj]at this;simpa using this
theorem Nk(B:Cb)(cb:Nat)(C:CK)(s:CS)(sv kv lv:Value)(w:World)(h:Cd B cb C s sv kv lv w)(j:Nat)(hj:j<s.aK.length)(hl:s.aK.length<=1000000):
  Calls prog 260 #[.pointer (some ⟨cb,0,none⟩),.int .i64 j] w λe w'=>
   e=.returned (.tuple #[])/\cM B cb C w {s with aK:=s.aK.set j (s.aK[j].1,(s.aK.length:Int))} w':=by
 have h1:=h.lt;have h2:=h.low;obtain⟨g,cap,aU,rfl,xG,hg2,hg3,hg4,rR,Gp⟩:=cN h.uD (by omega);obtain⟨f0,f1,f7,f8,f9⟩:=h.field;have eP:=af hg2;have XL:=aj hg2;have c1:=(dt h.uD (j*2+1) (by omega)).trans (qP s.aK j hj).2;have HP:=aa (h.Rs j hj (s.aK.length:Int));clear h hg2 rR Gp
 go_enter func260,ntmps260
 go_wp2_with fail
 go_region
 all_goals
  (try go_wp2)
  go_end0
  exact⟨rfl,cM.mk ⟨HP.o.1.drew,HP.o.2.drew⟩⟩
theorem GF(ag:List UInt8)(sc:List (List UInt8))(k:Nat)(hk:k<sc.length):yC ag (sc.take (k+1)).reverse=if 0<k/\sc[k]≠ag then yC ag (sc.take k).reverse else(k:Int):=by
 rw [List.take_succ_eq_append_getElem hk,List.reverse_append];simp only [List.reverse_cons,List.reverse_nil,List.nil_append,List.cons_append,yC,List.length_reverse,List.length_take];rw [Nat.min_eq_left (by omega)]
theorem Nl(B:Cb)(cb:Nat)(C:CK)(s:CS)(sv kv lv:Value)(w:World)(h:Cd B cb C s sv kv lv w)(ag:List UInt8)(hl:s.az.length<=1000000):
  Calls prog 219 #[.pointer (some ⟨cb,0,none⟩),.string ⟨ag.toArray⟩] w λe w'=>
   e=.returned (.int .i64 (yD s.az ag))/\w'=w:=by
 have h1:=h.lt;obtain⟨f0,f1,f7,f8,f9⟩:=h.field
 rcases Nat.eq_zero_or_pos s.az.length with h0|jR
 ·obtain⟨so,sc,rfl⟩:=ak h.oV
  rw [h0]at f1;have HX:=aa (show yD s.az ag= -1 by rw [List.eq_nil_of_length_eq_zero h0];rfl);clear h;have GG:w.cell? ⟨cb,1,none⟩=some (.slice so 0 sc):=f1;clear f1
  go_enter func219,ntmps219
  go_wp2
  go_loop [5] (λi=>i=.int .i64 (-1)) (λi=>0)
  case atStart=>rfl
  case round=>
   subst hrel;go_wp2;go_ret;exact⟨bR HX.o.symm,rfl⟩
 obtain⟨g,cap,aU,rfl,xG,hg2,hg3,hg4,rR,Gp⟩:=cN h.oV jR;have eP:=af hg2;have HC:=aa (λ(k:Nat) (hk:k<s.az.length)=>(dt h.oV k (by omega)).trans (by rw [strCells,List.getElem?_map,List.getElem?_eq_getElem hk];rfl:(strCells s.az)[k]?=some (.string ⟨(s.az[k]).toArray⟩)));clear h hg2 rR Gp
 go_enter func219,ntmps219
 go_wp2
 go_loop [5] (λi=>∃k:Nat,i=.int .i64 k/\k<s.az.length/\Hy (yD s.az ag=yC ag (s.az.take (k+1)).reverse)) (λi=>(intOf i).toNat)
 case atStart=>exact⟨s.az.length-1,by congr 1;omega,by omega,by show yC ag s.az.reverse=_;rw [Nat.sub_add_cancel jR,List.take_length]⟩
 obtain⟨k,rfl,hk,HR⟩:=hrel;have hc:=HC.o k hk;have HT:=aa (GF ag s.az k hk)
 rcases Nat.eq_zero_or_pos k with rfl|Dy
 ·go_wp2
  go_ret;exact⟨bR (by rw [HR.o,HT.o];simp),rfl⟩
 have Rt:(0:Int)<(k:Int):=by omega
 rcases he:(s.az[k]==ag)with _|_
 ·have hne:¬s.az[k]=ag:=by simpa using he
  go_wp2
  go_round
  case rel=>exact⟨k-1,by congr 1;omega,by omega,by show yD s.az ag=_;rw [HR.o,HT.o,if_pos ⟨Dy,hne⟩,Nat.sub_add_cancel Dy]⟩
  case measure=>simp [intOf];omega
 have heq:s.az[k]=ag:=by simpa using he
 go_wp2;go_ret;exact⟨bR (by rw [HR.o,HT.o,if_neg (λh=>h.2 heq)]),rfl⟩
theorem ft(k:Nat)(hk:k<15)(w:World):
  Calls prog 224 #[.int .i64 k] w λe w'=>e=.returned (.int .i64 (tL k))/\w'=w:=by
 have hx:k=7\/k=8\/k=9\/k=10\/k=11\/k=12\/k=13\/(k<7\/k=14):=by omega
 rcases hx with rfl|rfl|rfl|rfl|rfl|rfl|rfl|hx
 case inr.inr.inr.inr.inr.inr.inr=>
  have HO:=aa (show tL k=14 by unfold tL;rw [if_neg (by omega)])
  have e7:((k:Int)==7)=false:=by simp;omega
  have e8:((k:Int)==8)=false:=by simp;omega
  have e9:((k:Int)==9)=false:=by simp;omega
  have e10:((k:Int)==10)=false:=by simp;omega
  have e11:((k:Int)==11)=false:=by simp;omega
  have e12:((k:Int)==12)=false:=by simp;omega
  have e13:((k:Int)==13)=false:=by simp;omega
  go_enter func224,ntmps224
  go_wp2;go_ret;exact⟨bR (by rw [HO.o];rfl),rfl⟩
 all_goals
  go_enter func224,ntmps224
  go_wp2;go_ret;exact⟨rfl,rfl⟩
def CS.emit(s:CS)(op:Nat)(v:Int):CS:={s with aK:=s.aK++ [(op,v)]}
def CS.enter(s:CS)(ag:List UInt8):CS:={s with az:=s.az++ [ag],aee:=max s.aee (s.az.length+1)}
def CS.land(s:CS)(j:Nat):CS:={s with aK:=s.aK.set j ((s.aK.getD j (0,0)).1,(s.aK.length:Int))}
def gG(g:Ex->CS->CS):List Ex->CS->CS
 | [],s=>s
 |e::r,s=>gG g r (g e s)
def CS.ifs(g:Ex->CS->CS)(a b c:Ex)(s:CS):CS:=
 (g c (((g b ((g a s).emit 4 0)).emit 3 0).land (g a s).aK.length)).land (g b ((g a s).emit 4 0)).aK.length
def CS.lets(g:Ex->CS->CS)(ag:List UInt8)(a b:Ex)(s:CS):CS:=
 {g b (((g a s).enter ag).emit 2 (g a s).az.length)with az:=(g b (((g a s).enter ag).emit 2 (g a s).az.length)).az.take s.az.length}
def CS.ia(s:CS)(x:List UInt8×List UInt8):CS:=({s with bq:=s.bq++ [x]}:CS).emit 5 s.bq.length
structure wY where
 sym:List UInt8->List UInt8×List UInt8
 use:List UInt8->List Us
 le:∀n,(use n).length<=1000
def gen(fnd:wY):Nat->Ex->CS->CS
 |0,_,s=>s
 |m+1,e,s=>
  if e.aL=0\/e.aL=1 then s.emit 0 e.value
  else if e.aL=2 then s.emit 1 (yD s.az e.ag)
  else if e.aL=4 then gG (gen fnd m) (e.aw.take 1) s
  else if e.aL=5 then(match e.aw with| [a,b,c]=>CS.ifs (gen fnd m) a b c s|_=>s)
  else if e.aL=6 then(match e.aw with| [a,b]=>CS.lets (gen fnd m) e.ag a b s|_=>s)
  else if e.aL=3 then((gG (gen fnd m) e.aw s).pS (fnd.use e.ag)).ia (fnd.sym e.ag)
  else(gG (gen fnd m) e.aw s).emit (tL e.aL) 0
def lV(known:List UInt8->Prop):Nat->Ex->Prop
 |0,_=>False
 |m+1,e=>e.aL<15/\(e.aL=4->e.aw.length=1)/\(e.aL=5->e.aw.length=3)/\(e.aL=6->e.aw.length=2)/\(e.aL=3->known e.ag)/\∀x∈e.aw,lV known m x
structure Fit (s:CS) (n:Nat):Prop where
 aK:s.aK.length+2*n<=1000000
 az:s.az.length+n<=1000000
 aee:s.aee<=1000000
 bq:s.bq.length+n<=1000000
 lk:s.lk.length+1000*n<=8000000000
structure iQ (s t:CS) (n k:Nat):Prop where
 aK:s.aK.length<=t.aK.length/\t.aK.length<=s.aK.length+k
 az:t.az=s.az
 aee:t.aee<=max s.aee (s.az.length+n)
 bq:t.bq.length<=s.bq.length+n
 lk:t.lk.length<=s.lk.length+1000*n
theorem iQ.fit(h:iQ s t n (2*n))(f:Fit s (n+m)):Fit t m:=by
 have:=h.aK;have:=h.aee;have:=h.bq;have:=h.lk;obtain⟨a,b,c,d,e⟩:=f;refine⟨by omega,by rw [h.az];omega,by omega,by omega,by omega⟩
theorem Fit.mono(f:Fit s n)(h:m<=n):Fit s m:=⟨by have:=f.aK;omega,by have:=f.az;omega,f.aee,by have:=f.bq;omega,by have:=f.lk;omega⟩
theorem iQ.refl(s:CS)(n k:Nat):iQ s s n k:=⟨by omega,rfl,by omega,by omega,by omega⟩
theorem iQ.trans{u:CS}(h:iQ s t n k)(g:iQ t u m l):iQ s u (n+m) (k+l):=by
 obtain⟨a,b,c,d,e⟩:=h;obtain⟨a',b',c',d',e'⟩:=g;rw [b]at c' b';exact⟨by omega,b',by omega,by omega,by omega⟩
theorem iQ.mono(h:iQ s t n k)(g:n<=m)(g2:k<=l):iQ s t m l:=⟨by have:=h.aK;omega,h.az,by have:=h.aee;omega,by have:=h.bq;omega,by have:=h.lk;omega⟩
theorem mD{g:Ex->CS->CS}{sz:Ex->Nat}(l:List Ex)(h:∀x∈l,∀s,iQ s (g x s) (sz x) (2*sz x))(s:CS):iQ s (gG g l s) (gD sz l) (2*gD sz l):=by
 induction l generalizing s with
 |nil=>exact iQ.refl _ _ _
 |cons x r ih=>
  have:=(h x (by simp) s).trans (ih (λy hy=>h y (by simp [hy])) (g x s));exact this.mono (Nat.le_refl _) (by simp only [gD,List.foldr_cons];omega)
theorem iQ.emit(s:CS)(op:Nat)(v:Int):iQ s (s.emit op v) 0 1:=⟨by simp [CS.emit],rfl,by simp [CS.emit];omega,by simp [CS.emit],by simp [CS.emit]⟩
theorem iQ.land(s:CS)(j:Nat):iQ s (s.land j) 0 0:=⟨by simp [CS.land],rfl,by simp [CS.land];omega,by simp [CS.land],by simp [CS.land]⟩
theorem iQ.ia(s:CS)(x:List UInt8×List UInt8)(u:List Us)(hu:u.length<=1000):iQ s ((s.pS u).ia x) 1 1:=⟨by simp [CS.ia,CS.emit,CS.pS],rfl,by simp [CS.ia,CS.emit,CS.pS];omega,by simp [CS.ia,CS.emit,CS.pS],by simp [CS.ia,CS.emit,CS.pS];omega⟩
theorem gH(fnd:wY)(m:Nat):∀(e:Ex) (s:CS),iQ s (gen fnd m e s) (sz m e) (2*sz m e):=by
 induction m with
 |zero=>intro e s;exact iQ.refl _ _ _
 |succ m ih=>
  intro e s;have hsz:sz (m+1) e=1+gD (sz m) e.aw:=rfl;rw [hsz];unfold gen
  split
  ·exact(iQ.emit s _ _).mono (by omega) (by omega)
  ·split
   ·exact(iQ.emit s _ _).mono (by omega) (by omega)
   ·split
    ·have:=mD (g:=gen fnd m) (sz:=sz m) (e.aw.take 1) (λx _ s=>ih x s) s
     have hle:gD (sz m) (e.aw.take 1)<=gD (sz m) e.aw:=by
      cases e.aw with
      |nil=>simp [gD]
      |cons x r=>simp [gD]
     exact this.mono (by omega) (by omega)
    ·split
     ·split
      ·next a b c hp=>
       rw [hp];unfold CS.ifs;have h:=((((((ih a s).trans (iQ.emit (gen fnd m a s) 4 0)).trans (ih b ((gen fnd m a s).emit 4 0))).trans (iQ.emit _ 3 0)).trans (iQ.land _ (gen fnd m a s).aK.length)).trans (ih c _)).trans (iQ.land _ (gen fnd m b ((gen fnd m a s).emit 4 0)).aK.length);exact h.mono (by simp only [gD,List.foldr_cons,List.foldr_nil];omega) (by simp only [gD,List.foldr_cons,List.foldr_nil];omega)
      ·exact iQ.refl _ _ _
     ·split
      ·split
       ·next a b hp=>
        rw [hp];have h1:=ih a s;unfold CS.lets;generalize gen fnd m a s=s1 at*;have h2:=ih b ((s1.enter e.ag).emit 2 s1.az.length);generalize gen fnd m b ((s1.enter e.ag).emit 2 s1.az.length)=s2 at*;obtain⟨c1,c2,c3,c4,c5⟩:=h1;obtain⟨d1,d2,d3,d4,d5⟩:=h2;simp only [CS.emit,CS.enter,List.length_append,List.length_cons,List.length_nil]at d1 d2 d3 d4 d5;simp only [gD,List.foldr_cons,List.foldr_nil];rw [c2]at d2 d3;refine⟨?_,?_,?_,?_,?_⟩
        ·simp only;omega
        ·simp only;rw [d2];simp
        ·simp only;omega
        ·simp only;omega
        ·simp only;omega
       ·exact iQ.refl _ _ _
      ·split
       ·exact((mD (g:=gen fnd m) (sz:=sz m) e.aw (λx _ s=>ih x s) s).trans (iQ.ia _ _ _ (fnd.le _))).mono (by omega) (by omega)
       ·exact((mD (g:=gen fnd m) (sz:=sz m) e.aw (λx _ s=>ih x s) s).trans (iQ.emit _ _ _)).mono (by omega) (by omega)
def pV(m:Nat)(S:Nat->Prop)(w:World)(b o:Nat)(e:Ex):Prop:=
 ∃pv,w.cell? ⟨b,o,none⟩=some (.int .i64 e.aL)/\w.cell? ⟨b,o+2,none⟩=some (.string ⟨e.ag.toArray⟩)/\w.cell? ⟨b,o+3,none⟩=some (.int .i64 e.value)/\w.cell? ⟨b,o+4,none⟩=some pv/\eB m S w pv e.aw
theorem eB.at(h:eB m S w pv es)(h0:0<es.length):
  ∃k g cap,m=k+1/\pv=.slice (some ⟨g,0,none⟩) es.length cap/\S g/\g<w.heap.size/\es.length<=cap/\∀j,(hj:j<es.length)->pV k S w g (j*5) es[j]:=by
 cases m with
 |zero=>obtain⟨rfl,_⟩:=h;simp at h0
 |succ k=>
  rcases h with⟨rfl,_⟩|⟨g,cap,aU,h1,h2,h3,h4,h5⟩
  ·simp at h0
  ·refine⟨k,g,cap,rfl,h1,h2,af h4,h3,λj hj=> ?_⟩
   obtain⟨pj,a,b⟩:=h5 j hj
   have hc:∀i,i<5->aU[j*5+i]?=(eX es[j] pj)[i]?:=by
    intro i hi;rw [<-a,List.getElem?_take,if_pos hi,List.getElem?_drop];simp
   refine⟨pj,?_,?_,?_,?_,b⟩
   ·rw [ae h4];exact(hc 0 (by omega))
   ·rw [ae h4];exact(hc 2 (by omega))
   ·rw [ae h4];exact(hc 3 (by omega))
   ·rw [ae h4];exact(hc 4 (by omega))
theorem eB.none(h:eB m S w pv es):∃po pc,pv=.slice po es.length pc:=by
 cases m with
 |zero=>obtain⟨rfl,h⟩:=h;exact⟨_,_,h⟩
 |succ k=>
  rcases h with⟨rfl,h⟩|⟨g,cap,aU,h1,_⟩
  ·exact⟨_,_,h⟩
  ·exact⟨_,_,h1⟩
theorem pV.below{B:Nat}{b o:Nat}{e:Ex}(h:pV m S w b o e)(hb:b<B)(hS:∀k,S k->k<B)(hw:Below B w w'):pV m S w' b o e:=by
 obtain⟨pv,a,b',c,d,f⟩:=h;exact⟨pv,(aC hw hb _).trans a,(aC hw hb _).trans b',(aC hw hb _).trans c,(aC hw hb _).trans d,f.keep (λk h1 _=>⟨h1,hw.block k (hS k h1)⟩)⟩
end Go.Proofs.YtpmmjkiclngpmaaGreatDoor
