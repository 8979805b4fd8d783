/- YtpmmjkiclngpmaaGreatDoorB30 -/
import Derived.Test.YtpmmjkiclngpmaaGreatDoorB22
import Derived.Test.YtpmmjkiclngpmaaGreatDoorB29
import Derived.Test.YtpmmjkiclngpmaaGreatDoorB17
set_option maxRecDepth 100000
set_option linter.unusedSimpArgs false
set_option linter.unusedVariables false
set_option maxHeartbeats 12800000
namespace Go.Proofs.YtpmmjkiclngpmaaGreatDoor
open Tryz
open Go.RowKit
variable{mb lo fb:Nat}{w w':World}{md:Mod}{n:Nm}{L:List Md}{tr:Nm->Option (Nat×Mod)}
def dC(l:List UInt8):Mod×PS:=mR (aD l 0) (rd (aD l 0) (aD l 0).length).1 ⟨0,false,0⟩
theorem yh(l:List UInt8):∀s:PS,s.i+1=(aD l 0).length->(s.aU (aD l 0)).aL=0:=by
 intro s hs;obtain⟨r,x,e,hk,_⟩:=h_ l 0;rw [e]at hs⊢
 have:s.i=r.length:=by simp at hs;omega
 simp [PS.aU,this,hk]
theorem CT(l:List UInt8):∀s:PS,(s.aU (aD l 0)).aL=3->0<(s.aU (aD l 0)).aX.length/\(s.aU (aD l 0)).aX.length<=9/\∀c∈(s.aU (aD l 0)).aX,ba (c.toNat:Int)=true:=by
 intro s h
 by_cases hi:s.i<(aD l 0).length
 ·have:=Cr l 0 (aD l 0)[s.i] (List.getElem_mem hi)
  rw [PS.ML hi]at this;exact this h
 simp [PS.aU,List.getD,List.getElem?_eq_none (Nat.le_of_not_lt hi)]at h
theorem kx.low{lo':Nat}{m:Mod}(h:kx lo w mb m)(hl:lo'<=lo):kx lo' w mb m:=by
 obtain⟨iv,fv,xs,a,b,c,d⟩:=h;exact⟨iv,fv,xs,a,jz b hl,jz c hl,d.keep (λk h _=>⟨by omega,rfl⟩)⟩
def VI(l:List UInt8)(w:World)(e:Ending)(w':World):Prop:=
 Below w.heap.size w w'/\(((dC l).2.aH=true/\e=.returned (.tuple #[.pointer none,.int .i64 (dC l).2.ai]))\/
  ((dC l).2.aH=false/\∃mb,e=.returned (.tuple #[.pointer (some ⟨mb,0,none⟩),.int .i64 0])/\w.heap.size<=mb/\kx w.heap.size w' mb (dC l).1))
theorem KV(s:ByteArray)(w:World)(hs:s.size<=100000):Calls prog 70 #[.string s] w (VI s.data.toList w):=by
 have hlen:(aD s.data.toList 0).length<=100001:=by
  obtain⟨r,x,e,_,h⟩:=h_ s.data.toList 0;rw [e];simp at h⊢;omega
 have jR:0<(aD s.data.toList 0).length:=by
  obtain⟨r,x,e,_,h⟩:=h_ s.data.toList 0;rw [e];simp
 have hZ:=aa (yh s.data.toList);have HNu:=aa (CT s.data.toList);have HEq:=aa (show dC s.data.toList=mR (aD s.data.toList 0) (rd (aD s.data.toList 0) (aD s.data.toList 0).length).1 ⟨0,false,0⟩from rfl);have r_:=aa (yu s w hs);generalize hl:s.data.toList=l at*;have HL:=aa hl;clear hl;generalize hw:aD l 0=ws at*;have HWs:=aa hw;clear hw
 go_enter func70,ntmps70
 go_wp2_with fail
 refine r_.o.mono ?_;rintro e w1 ⟨v,rfl,how,jM⟩
 obtain⟨g,cap,aU,rfl,hbg,aed,vJ,hcm,hcs,iX⟩:∃g cap aU,v=.slice (some ⟨g,0,none⟩) ws.length cap/\w.heap.size<=g/\w1.heap[g]?=some (.cells aU 274 (0,0))/\ws.length<=cap/\cap<=maxLen/\aU.size=cap*3/\aU.toList.take (ws.length*3)=ws.flatMap iW:=by
  rcases how.2 with⟨_,h0⟩|h
  ·omega
  ·exact h
 have ab6:=aa (show jJ ⟨w1.heap.size,g,cap,aU⟩ ws ⟨0,false,0⟩ (w1.alloc (.cells #[.slice (some ⟨g,0,none⟩) ws.length cap,.int .i64 0,.bool false,.int .i64 0] 203))from
  ⟨aF _ _,aI aed _,iX,by have:=af aed;show g≠w1.heap.size;omega,jR,hlen,vJ⟩)
 have eC:=aa jM;have hs1:=jM.size;clear how jM aed iX hcs hcm
 go_wp2_with fail
 refine(G_ ⟨w1.heap.size,g,cap,aU⟩ ws (rd ws ws.length).1 (reads ⟨w1.heap.size,g,cap,aU⟩ ws hZ.o HNu.o ws.length).1 hZ.o ⟨0,false,0⟩ _ (by exact ab6.o)).mono ?_;rintro e w2 ⟨rfl,bp,Ol⟩;have et:=aa bp;have Em:=aa Ol;obtain⟨f0,f1,f2,f3⟩:=bp.cz.field;have hs2:=bp.size;simp at hs2;clear bp Ol f0 f1;rw [<-HEq.o]at Em et f2 f3;have cU:=aa (show Below w.heap.size w w2 from⟨et.o.but.os.trans eC.o.os,et.o.but.tape.trans eC.o.tape,et.o.but.output.trans eC.o.output,by omega,λk hk=>(et.o.but.block k (by simp;omega) (by show k≠w1.heap.size;omega)).trans ((Below.heap_alloc _ _ _ (by omega)).trans (eC.o.block k hk))⟩)
 rcases xD:(dC l).2.aH with _|_
 ·rw [xD]at f2
  go_wp2
  go_ret2
  have hm:=Em.o;rw [show ∀o,(w1.alloc o).heap.size=w1.heap.size+1 from λo=>by simp]at hm;exact⟨cU.o,Or.inr ⟨xD,w1.heap.size+1,rfl,by omega,hm.low (by omega)⟩⟩
 rw [xD]at f2;go_wp2
 go_region
 all_goals (try go_wp2)
 go_ret2
 exact⟨cU.o.drew,Or.inl ⟨xD,rfl⟩⟩
theorem CU(n:Nat)(l:List UInt8)(p:Nat):∀x∈fh n l p,x.aX.length<=l.length:=by
 induction n generalizing l p with
 |zero=>simp [fh]
 |succ n ih=>
  simp only [fh]
  have N2:(l.drop (aT bm l)).length<=l.length:=by rw [List.length_drop];omega
  split
  ·intro x hx
   simp at hx;subst hx;simp
  ·next c r he=>
   rw [he]at N2;intro x hx;simp only [List.mem_cons]at hx
   rcases hx with rfl|hx
   ·simp only [List.length_take];omega
   ·have:=ih _ _ x hx
    rw [List.length_drop]at this;omega
theorem EB(n:Nat)(l:List UInt8)(p:Nat):∀x∈fh n l p,x.aL≠0->x.aX≠ []:=by
 induction n generalizing l p with
 |zero=>intro x hx;simp [fh]at hx
 |succ n ih=>
  simp only [fh]
  split
  ·intro x hx hk;simp at hx;subst hx;simp at hk
  ·next c r he=>
   have hb:=gM c r;intro x hx;simp only [List.mem_cons]at hx
   rcases hx with rfl|hx
   ·intro _ h0
    have h1:=congrArg List.length h0;rw [List.length_take,List.length_nil]at h1;have h2:(c::r).length=r.length+1:=rfl;omega
   ·exact ih _ _ x hx
theorem xk:∀(l:List UInt8) (n:Nat),l.foldl (λn c=>10*n+(c.toNat-48)) n+23<=(n+23)*10^l.length
 | [],n=>by simp
 |c::r,n=>by
  have h:=xk r (10*n+(c.toNat-48));have hc:c.toNat<256:=c.toNat_lt;have h2:(10*n+(c.toNat-48)+23)*10^r.length<=((n+23)*10)*10^r.length:=Nat.mul_le_mul_right _ (by omega);rw [List.foldl_cons,List.length_cons,Nat.pow_succ,Nat.mul_comm (10^r.length) 10,<-Nat.mul_assoc];omega
theorem tX(l:List UInt8)(h:l.length<=9):fL l<100000000000:=by
 have h1:=xk l 0;have h2:10^l.length<=10^9:=Nat.pow_le_pow_right (by omega) h;unfold fL;omega
theorem B3(l:List UInt8)(hl:l.length<=600)(hf:(dC l).2.aH=false):AB 601 (dC l).1:=by
 have hlen:0<(aD l 0).length/\(aD l 0).length<=601:=by
  obtain⟨r,x,e,_,h⟩:=h_ l 0;rw [e];simp at h⊢;omega
 have hs:qw (aD l 0):=λx hx=>⟨by have:=CU _ l 0 x hx;omega,EB _ l 0 x hx⟩
 have h:=NS (ws:=aD l 0) ⟨yh l,λs h=>tX _ (CT l s h).2.1⟩ hs hlen.1 hf;have e:=hlen.2;refine⟨by have:=h.il;show 3*(dC l).1.aq.length<=601;unfold dC;omega,h.im,by have:=h.fl;show(dC l).1.aR.length<=601;unfold dC;omega,λf hf=> ?_,λm=>Nat.le_trans (h.all m) e⟩;have q:=h.fs f hf;exact⟨q.ag,q.pn,Nat.le_trans q.pl e,q.br.mono e,q.ne,q.pt,q.rt⟩
theorem AB.ok(h:AB 601 md):TX 700 md where
 fl:=by have:=h.fl;omega
 il:=by have:=h.il;omega
 fn f hf:=(h.fs f hf).ag
 im f hf:=h.im f hf
 sh f hf:=(h.fs f hf).br.TK.mono (by omega)
 pn f hf:=(h.fs f hf).pn
 pl f hf:=by have:=(h.fs f hf).pl;omega
 sz f hf:=by have:=(h.fs f hf).pl;have:=(h.fs f hf).br.En (700+1);omega
 all:=by have:=h.all (700+1);unfold Am;omega
theorem eB.low{S:Nat->Prop}:∀(k n:Nat) {pv:Value} {es:List Ex},eB n S w pv es->(∀x∈es,lV (λ_=>True) k x)->eB (k+1) S w pv es:=by
 intro k
 induction k with
 |zero=>
  intro n pv es h hs
  rcases es with _|⟨x,r⟩
  ·cases n with
   |zero=>exact Or.inl h
   |succ n=>
    rcases h with h|⟨g,cap,aU,a,b,c,d,_⟩
    ·exact Or.inl h
    ·exact Or.inr ⟨g,cap,aU,a,b,c,d,λj hj=>absurd hj (by simp)⟩
  ·exact absurd (hs x (by simp)) (by simp [lV])
 |succ k ih=>
  intro n pv es h hs
  cases n with
  |zero=>exact Or.inl h
  |succ n=>
   rcases h with h|⟨g,cap,aU,a,b,c,d,e⟩
   ·exact Or.inl h
   ·refine Or.inr ⟨g,cap,aU,a,b,c,d,λj hj=> ?_⟩
    obtain⟨pj,e1,e2⟩:=e j hj;exact⟨pj,e1,ih n e2 (λy hy=>(hs _ (List.getElem_mem hj)).2.2.2.2.2 y hy)⟩
theorem kx.VJ(h:kx lo w mb md)(hm:AB 601 md):kA 700 (λk=>k<w.heap.size) w.heap.size w mb md:=by
 obtain⟨m,Ye⟩:=h.cells;have h1:=Ye (max m 700) (by omega);obtain⟨h1a,h1b,fo,fc,h4,h5⟩:=h1;refine⟨h1a,h1b,fo,fc,h4,λhp=> ?_⟩;obtain⟨g,a,b,c,d⟩:=h5 hp;refine⟨g,a,b,c,λj hj=> ?_⟩;obtain⟨pv,bv,b0,b1,b2,b3,b4,b5,b6,b7,b8,b9,hp,hb⟩:=d j hj;refine⟨pv,bv,b0,b1,b2,b3,b4,b5,b6,b7,b8,b9,hp,?_⟩;have kh:=(hm.fs _ (List.getElem_mem hj)).br.TK.mono (show 601<=699+1 by omega);exact eB.low 699 _ hb (λx hx=>kh.2.2.2.2.2 x hx)
def ir(t:List UInt8):Option Mod:=if(dC t).2.aH then none else some (dC t).1
def aP(L:List Md)(n:Nm):Option Mod:=(getM L n).bind λm=>ir m.now
def gz(L:List Md)(n:Nm):Nat:=match getM L n with|some m=>if(dC m.now).2.aH then(dC m.now).2.ai else 0|none=>0
structure dW (lo:Nat) (w:World) (fb:Nat) (L:List Md) (tr:Nm->Option (Nat×Mod)):Prop where
 low:lo<=fb
 map:cV prog w 9 fb (aZ L) (λn=> .agg #[.pointer (gy (tr n)),.int .i64 (gz L n)])
 is:∀n,(tr n).map Prod.snd=aP L n
 at':∀n y,tr n=some y->lo<=y.1/\kx lo w y.1 y.2
theorem tY(h:n∉aZ L):aP L n=none/\gz L n=0:=by
 have:=getM_none.2 h;simp [aP,gz,this]
theorem rq(hs:∀m∈L,m.ag.length<=8/\m.now.length<=600)(h:aP L n=some md):AB 601 md:=by
 unfold aP at h
 rcases hg:getM L n with _|m
 ·rw [hg]at h;cases h
 rw [hg]at h;simp only [Option.bind_some,ir]at h
 split at h
 ·cases h
 next hf=>
 simp only [Option.some.injEq]at h;subst h;exact B3 _ (hs m (N8 hg).1).2 (by simpa using hf)
theorem dW.ar(h:dW lo w fb L tr)(n:Nm)(hn:n.length<=maxLen):
  (Instr.lookup 99 (.map (some fb)) (.string ⟨n.toArray⟩) false).run prog w=.ok (.agg #[.pointer (gy (tr n)),.int .i64 (gz L n)]) w:=by
 have:=h.map.ar lL yN (zeroValue107 w) (nV hn);rw [this]
 split
 ·rfl
 next hn'=>
 have h1:=h.is n;rw [(tY hn').1]at h1
 have h2:tr n=none:=by simpa using h1
 rw [h2,(tY hn').2]
 rfl
theorem dW.may(h:dW lo w fb L tr)(hs:∀m∈L,m.ag.length<=8/\m.now.length<=600)(n:Nm):kB 700 (λk=>k<w.heap.size) w.heap.size w (tr n):=by
 intro y hy;have h1:=h.is n;rw [hy]at h1;have bp:=rq hs h1.symm;exact⟨(h.at' n y hy).2.VJ bp,by have:=bp.fl;omega,λf hf=>by have:=(bp.fs f hf).pl;omega⟩
theorem dW.keep(h:dW lo w fb L tr)(hk:∀k,k<w.heap.size->lo<=k->w'.heap[k]?=w.heap[k]?):dW lo w' fb L tr where
 low:=h.low
 map:=h.map.keep (hk _ h.map.lt h.low)
 is:=h.is
 at' n y hy:=⟨(h.at' n y hy).1,(h.at' n y hy).2.keep λk gZ ho=>hk k gZ (ho.elim (λe=>by rw [e];exact(h.at' n y hy).1) id)⟩
theorem dW.below(h:dW lo w fb L tr)(hb:Below w.heap.size w w'):dW lo w' fb L tr:=h.keep λk hk _=>hb.block k hk
theorem dW.congr{L':List Md}(h:dW lo w fb L tr)(hn:aZ L'=aZ L)(hE:∀n,aP L' n=aP L n)(hP:∀n,gz L' n=gz L n):dW lo w fb L' tr where
 low:=h.low
 map:=by rw [hn];exact h.map.congr λn _=>by rw [hP]
 is n:=by rw [hE];exact h.is n
 at':=h.at'
end Go.Proofs.YtpmmjkiclngpmaaGreatDoor
