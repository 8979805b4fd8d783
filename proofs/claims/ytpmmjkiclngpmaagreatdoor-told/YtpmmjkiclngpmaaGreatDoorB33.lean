/- YtpmmjkiclngpmaaGreatDoorB33 -/
import Derived.Test.YtpmmjkiclngpmaaGreatDoorB29
import Derived.Test.YtpmmjkiclngpmaaGreatDoorB17
set_option maxRecDepth 100000
set_option linter.unusedSimpArgs false
set_option linter.unusedVariables false
set_option maxHeartbeats 12800000
namespace Go.Proofs.YtpmmjkiclngpmaaGreatDoor
open Tryz
open Go.RowKit
variable{pv kv lv:Value}{f:CF}{fs:List CF}{w:World}
def AF(vn:Nm)(fnd:wY)(m:Nat)(f:iL)(lk:List Us):CF:=
 ⟨vn,f.ag,f.gW,f.ay.map (λx=>x.eF),ja (f.ay.map λx=>x.eF) f.result,(dx fnd m f lk).aee,(dx fnd m f lk).aK,(dx fnd m f lk).bq⟩
def f_(vn:Nm)(fnd:wY)(m:Nat):List iL->List Us->List CF×List Us
 | [],lk=>([],lk)
 |f::r,lk=>(AF vn fnd m f lk::(f_ vn fnd m r (dx fnd m f lk).lk).1,(f_ vn fnd m r (dx fnd m f lk).lk).2)
theorem Hq(vn:Nm)(fnd:wY)(m:Nat)(l:List iL)(j:Nat)(hj:j<l.length)(lk:List Us):
  f_ vn fnd m (l.drop j) lk=(AF vn fnd m l[j] lk::(f_ vn fnd m (l.drop (j+1)) (dx fnd m l[j] lk).lk).1,(f_ vn fnd m (l.drop (j+1)) (dx fnd m l[j] lk).lk).2):=by
 rw [List.drop_eq_getElem_cons hj];rfl
theorem B6(fnd:wY)(m:Nat)(f:iL)(lk:List Us):(dx fnd m f lk).lk.length<=lk.length+1000*sz (m+1) f.br:=by
 have h1:=(gH fnd (m+1) f.br (enters f.ay (begun lk))).lk;rw [(kI f.ay (begun lk) (by simp [begun])).2.2.2.2]at h1;exact h1
theorem B7:(prog.info? 92).map (λi=>(i.zero,i.size,i.bytes))=some (some (.agg #[.string ⟨#[]⟩,.string ⟨#[]⟩,.bool false,.slice none 0 0,.string ⟨#[]⟩,.int .i64 0,.slice none 0 0,.slice none 0 0]),8,136):=by kernel_rfl
theorem zv(w:World)(a0 a1 a2 a3 a4 a5 a6 a7:Value)(t:TypeId):∀j u,[a0,a1,a2,a3,a4,a5,a6,a7][j]?=some u->(w.alloc (.cells #[a0,a1,a2,a3,a4,a5,a6,a7] t)).cell? ((⟨w.heap.size,0,none⟩:Addr).add j)=some u:=by
 intro j u hj
 match j,hj with
 |0,hj=>simp at hj;subst hj;simp [Addr.add]
 |1,hj=>simp at hj;subst hj;simp [Addr.add]
 |2,hj=>simp at hj;subst hj;simp [Addr.add]
 |3,hj=>simp at hj;subst hj;simp [Addr.add]
 |4,hj=>simp at hj;subst hj;simp [Addr.add]
 |5,hj=>simp at hj;subst hj;simp [Addr.add]
 |6,hj=>simp at hj;subst hj;simp [Addr.add]
 |7,hj=>simp at hj;subst hj;simp [Addr.add]
theorem iC.snoc{S:Nat->Prop}{xs:List Value}(h:iC S w xs fs)(hr:oz S w f pv kv lv):iC S w (xs++eY f pv kv lv) (fs++ [f]):=by
 refine⟨by rw [List.length_append,h.1,List.length_append,List.length_singleton];simp [eY];omega,λj hj=> ?_⟩;rw [List.length_append,List.length_singleton]at hj
 rcases Nat.lt_or_ge j fs.length with h1|h1
 ·obtain⟨a,b,c,e,g⟩:=h.2 j h1
  refine⟨a,b,c,?_,?_⟩
  ·rw [List.getElem_append_left h1,<-e,List.drop_append_of_le_length (by rw [h.1];omega),List.take_append_of_le_length (by rw [List.length_drop,h.1];omega)]
  ·rw [List.getElem_append_left h1];exact g
 have e:j=fs.length:=by omega
 subst e;refine⟨pv,kv,lv,?_,?_⟩
 ·rw [List.getElem_append_right (by omega),<-h.1,List.drop_left]
  simp [eY]
 rw [List.getElem_append_right (by omega)];simpa using hr
def B8(lo:Nat)(V:VK)(uv fv:Value)(b1 b2:Nat)(k:Nat):Prop:=lo<=k/\k≠V.b/\uv.ownBlock≠some k/\V.iv.ownBlock≠some k/\k≠b1/\k≠b2/\fv.ownBlock≠some k
structure Z8 (lo:Nat) (V:VK) (uv fv:Value) (b1 b2:Nat) (fs:List CF) (lk:List Us) (w0 w:World):Prop where
 dB:Below lo w0 w
 vw:Vw lo V lk uv w
 c1:w.heap[b1]?=some (.cells #[.slice none 0 0] 151 (0,0))
 c2:w.heap[b2]?=some (.cells #[fv] 151 (0,0))
 l1:lo<=b1
 l2:lo<=b2
 n12:b1≠b2
 row:∃xs,w.ownsRow lo 92 8 fv fs.length xs/\iC (B8 lo V uv fv b1 b2) w xs fs
 d1:∀k,jG V uv k->k≠b1/\k≠b2/\fv.ownBlock≠some k
 d2:fv.ownBlock≠some b1/\fv.ownBlock≠some b2
theorem TY(a0 a1 a2 a3 a4 a5 a6 a7:Value)(h0:a0.oneCell'=true)(h1:a1.oneCell'=true)(h2:a2.oneCell'=true)(h3:a3.oneCell'=true)(h4:a4.oneCell'=true)(h5:a5.oneCell'=true)(h6:a6.oneCell'=true)(h7:a7.oneCell'=true):
  ∀u∈ [a0,a1,a2,a3,a4,a5,a6,a7],u.oneCell'=true:=by
 intro u hu;simp only [List.mem_cons,List.not_mem_nil,or_false]at hu
 rcases hu with rfl|rfl|rfl|rfl|rfl|rfl|rfl|rfl<;>assumption
theorem Z8.put{lo:Nat}{V:VK}{uv fv:Value}{b1 b2:Nat}{lk lk3:List Us}{w0 w3 w4:World}(h:Z8 lo V uv fv b1 b2 fs lk w0 w){GM:Value}(hc:kU ⟨lo,λk=>k<w.heap.size/\k≠V.b/\uv.ownBlock≠some k⟩ w w3)(hv:Vw lo V lk3 GM w3)(hp:w3.ownsRow lo 132 1 pv f.ay.length (fT f.ay))(hk:w3.ownsRow lo 196 2 kv f.aK.length (cX f.aK))(hl:w3.ownsRow lo 87 2 lv f.bq.length (fR f.bq))(hr:∀k,pv.ownBlock=some k\/kv.ownBlock=some k\/lv.ownBlock=some k->¬(k<w.heap.size/\k≠V.b/\uv.ownBlock≠some k)/\¬jG V GM k)(hu:∀k,k=V.b\/GM.ownBlock=some k->¬(k<w.heap.size/\k≠V.b/\uv.ownBlock≠some k))(xs:List Value)(Gt:w.ownsRow lo 92 8 fv fs.length xs)(v_:iC (B8 lo V uv fv b1 b2) w xs fs){v':Value}(ho:w4.ownsRow lo 92 8 v' (fs.length+1) (xs++eY f pv kv lv))(hg:w3.grownBy w4 fv.ownBlock)(hw:∀k,v'.ownBlock=some k->fv.ownBlock=some k\/w3.heap.size<=k):
    Z8 lo V GM v' b1 b2 (fs++ [f]) lk3 w0 (w4.setCell ⟨b2,0,none⟩ v'):=by
  have nK:=h.vw.low;have ab7:=h.vw.lt;have e1:=af h.c1;have e2:=af h.c2
  have KL:lo<=w.heap.size:=by omega
  have hs3:=hc.dB.size;have GL:=h.d1
  have T:∀k,k<w.heap.size->k≠V.b->uv.ownBlock≠some k->w3.heap[k]?=w.heap[k]?:=λk a b c=>hc.tab k ⟨a,b,c⟩
  have VP:b1≠V.b/\uv.ownBlock≠some b1:=⟨λe=>(GL V.b (Or.inl rfl)).1 e.symm,λe=>(GL b1 (Or.inr (Or.inr e))).1 rfl⟩;have VQ:b2≠V.b/\uv.ownBlock≠some b2:=⟨λe=>(GL V.b (Or.inl rfl)).2.1 e.symm,λe=>(GL b2 (Or.inr (Or.inr e))).2.1 rfl⟩
  have nf:∀k,fv.ownBlock=some k->k≠V.b/\uv.ownBlock≠some k:=λk e=>⟨λe'=>(GL V.b (Or.inl rfl)).2.2 (by rw [<-e'];exact e),λe'=>(GL k (Or.inr (Or.inr e'))).2.2 e⟩
  have Z9:=λk e=>(aG Gt k e).2
  have ni:∀k,V.iv.ownBlock=some k->k<w.heap.size/\k≠V.b/\uv.ownBlock≠some k:=λk e=>⟨(aG h.vw.imp k e).2,λe'=>h.vw.n1 (by rw [<-e'];exact e),h.vw.n3 k e⟩
  have g4:∀k,k<w3.heap.size->fv.ownBlock≠some k->w4.heap[k]?=w3.heap[k]?:=λk a b=>hg.block k a (λe=>b e.symm)
  have Ov:∀k,k<w3.heap.size->fv.ownBlock≠some k->v'.ownBlock≠some k:=λk a b e=>(hw k e).elim b (λe'=>by omega)
  have mC:=hg.size
  have uvb:∀k,GM.ownBlock=some k->k≠b1/\k≠b2/\fv.ownBlock≠some k/\k<w3.heap.size:=λk e=>
    ⟨λe'=>hu k (Or.inr e) ⟨by omega,by rw [e'];exact VP.1,by rw [e'];exact VP.2⟩,λe'=>hu k (Or.inr e) ⟨by omega,by rw [e'];exact VQ.1,by rw [e'];exact VQ.2⟩,
     λe'=>hu k (Or.inr e) ⟨Z9 k e',(nf k e').1,(nf k e').2⟩,(aG hv.Rn k e).2⟩
  have vh3:∀k,jG V GM k->k≠b1/\k≠b2/\fv.ownBlock≠some k/\k<w3.heap.size:=λk hk=>by
    rcases hk with rfl|e|e
    · exact⟨λe=>VP.1 e.symm,λe=>VQ.1 e.symm,(GL V.b (Or.inl rfl)).2.2,by omega⟩
    · have:=ni k e
      exact⟨(GL k (Or.inr (Or.inl e))).1,(GL k (Or.inr (Or.inl e))).2.1,(GL k (Or.inr (Or.inl e))).2.2,by omega⟩
    · exact uvb k e
  have ZA:v'.ownBlock≠some b2:=Ov b2 (by omega) h.d2.2;have ab8:v'.ownBlock≠some b1:=Ov b1 (by omega) h.d2.1
  have Jt:∀k,k<w3.heap.size->fv.ownBlock≠some k->k≠b2->(w4.setCell ⟨b2,0,none⟩ v').heap[k]?=w3.heap[k]?:=λk a b c=>(Below.heap_setCell _ _ _ _ c).trans (g4 k a b)
  have ZB:∀k,B8 lo V uv fv b1 b2 k->k<w.heap.size->B8 lo V GM v' b1 b2 k/\(w4.setCell ⟨b2,0,none⟩ v').heap[k]?=w.heap[k]?:=λk ha hk=>by
    obtain⟨a1,a2,a3,a4,a5,a6,a7⟩:=ha;refine⟨⟨a1,a2,λe=>hu k (Or.inr e) ⟨hk,a2,a3⟩,a4,a5,a6,Ov k (by omega) a7⟩,(Jt k (by omega) a7 a6).trans (T k hk a2 a3)⟩
  have Ow:∀(v:Value) (t:TypeId) (sz n:Nat) (ys:List Value),w3.ownsRow lo t sz v n ys->(∀k,v.ownBlock=some k->pv.ownBlock=some k\/kv.ownBlock=some k\/lv.ownBlock=some k)->p_ (B8 lo V GM v' b1 b2) (w4.setCell ⟨b2,0,none⟩ v') t sz v n ys:=λv t sz n ys hv1 hv2=>by
    have q:∀k,v.ownBlock=some k->B8 lo V GM v' b1 b2 k/\fv.ownBlock≠some k/\k≠b2/\k<w3.heap.size:=λk e=>by
      obtain⟨r1,r2⟩:=hr k (hv2 k e);obtain⟨o1,o2⟩:=aG hv1 k e
      have s1:k≠V.b:=λe'=>r2 (Or.inl e')
      have s2:GM.ownBlock≠some k:=λe'=>r2 (Or.inr (Or.inr e'))
      have s3:V.iv.ownBlock≠some k:=λe'=>r2 (Or.inr (Or.inl e'))
      have s4:k≠b1:=λe'=>r1 ⟨by omega,by rw [e'];exact VP.1,by rw [e'];exact VP.2⟩
      have s5:k≠b2:=λe'=>r1 ⟨by omega,by rw [e'];exact VQ.1,by rw [e'];exact VQ.2⟩
      have s6:fv.ownBlock≠some k:=λe'=>r1 ⟨Z9 k e',(nf k e').1,(nf k e').2⟩
      exact⟨⟨o1,s1,s2,s3,s4,s5,Ov k o2 s6⟩,s6,s5,o2⟩
    exact⟨cI (bE hv1 λk e l=>Jt k l (q k e).2.1 (q k e).2.2.1) (Nat.zero_le _),λk e=>(q k e).1⟩
  refine⟨?_,?_,?_,?_,h.l1,h.l2,h.n12,⟨xs++eY f pv kv lv,?_,?_⟩,λk hk=> ?_,⟨ab8,ZA⟩⟩
  · have hB:Below lo w w4:=⟨hg.os.trans hc.dB.os,hg.tape.trans hc.dB.tape,hg.output.trans hc.dB.output,by omega,λk hk=>(g4 k (by omega) (λe=>by have:=(aG Gt k e).1;omega)).trans (hc.dB.block k hk)⟩
    exact(h.dB.trans hB).setCell (p:=⟨b2,0,none⟩) h.l2 _
  · refine hv.keep λk hk=> ?_
    obtain⟨q1,q2,q3,q4⟩:=vh3 k hk;exact Jt k q4 q3 q2
  · exact(Jt b1 (by omega) h.d2.1 h.n12).trans ((T b1 e1 VP.1 VP.2).trans h.c1)
  · rw [ax ((g4 b2 (by omega) h.d2.2).trans ((T b2 e2 VQ.1 VQ.2).trans h.c2))];rfl
  · rw [List.length_append,List.length_singleton]
    exact a8 ho ZA _ _
  · exact(v_.keep ZB).snoc ⟨Ow _ _ _ _ _ hp (λk e=>Or.inl e),Ow _ _ _ _ _ hk (λk e=>Or.inr (Or.inl e)),Ow _ _ _ _ _ hl (λk e=>Or.inr (Or.inr e))⟩
  obtain⟨q1,q2,q3,q4⟩:=vh3 k hk;exact⟨q1,q2,Ov k q4 q3⟩
theorem ED(m:Nat)(S:Nat->Prop)(lo:Nat)(w:World)(V:VK)(pk:List Us)(KH:Value)(Gr:Vw lo V pk KH w)(hS:∀k,S k->k<lo)(md:Mod)(hM:kA m S lo w V.mb md)(fnd:wY)(known:List UInt8->Prop)(lJ:∀C tb w1,C.c0=.pointer (some ⟨V.b,0,none⟩)->C.V=V->Below lo w w1->Bf ⟨lo,tb⟩ w1 C fnd known)(xD:md.aR.length<=100000)(kh:∀f∈md.aR,lV known (m+1) f.br)(hpl:∀f∈md.aR,f.ay.length+2*sz (m+1) f.br+2<=1000000)(lz:∀f∈md.aR,f.ay.length<=100000)(hlk:pk.length+1000*Am m md.aR<=8000000000):
  Calls prog 77 #[.pointer (some ⟨V.b,0,none⟩)] w λe w'=>∃fv uv xs,e=.returned (.agg #[fv])/\Below lo w w'/\Vw lo V (f_ V.nm fnd m md.aR pk).2 uv w'/\
   w'.ownsRow lo 92 8 fv (f_ V.nm fnd m md.aR pk).1.length xs/\iC (λk=>lo<=k/\¬jG V uv k) w' xs (f_ V.nm fnd m md.aR pk).1/\∀k,fv.ownBlock=some k->¬jG V uv k:=by
 have nK:=Gr.low;have ab7:=Gr.lt
 have KL:lo<=w.heap.size:=by omega
 obtain⟨c0,c1,c2,c3⟩:=Gr.field;obtain⟨fo,fc,a1,wk⟩:=hM.aR;have Aj:=hM.lt;have HM:=aa hM;have VB:=aa wk;have V5:=aa lJ;have lI:=aa kh;have pq:=aa hpl;have TU:=aa lz;have Ji:=aa a1
 have VC:V.mb<w.heap.size:=by omega
 obtain⟨i0,hi,hz0,hz1,hz2⟩:=info_parts B7
 have KM:=aa (show Z8 lo V KH (.slice none 0 0) w.heap.size (w.heap.size+1) [] pk w ((w.alloc (.cells #[.slice none 0 0] 151)).alloc (.cells #[.slice none 0 0] 151))from by
  have e1:(w.alloc (.cells #[.slice none 0 0] 151)).heap.size=w.heap.size+1:=by simp
  refine⟨((Below.refl _ _).alloc KL _).alloc (by rw [e1];omega) _,(Gr.alloc _).alloc _,aI (aF w _) _,jg w _ _,KL,by omega,by omega,⟨[],World.ownsRow_nil _ _ _ _,⟨rfl,λj hj=>absurd hj (by simp)⟩⟩,λk hk=> ?_,⟨by simp [Value.ownBlock],by simp [Value.ownBlock]⟩⟩;have:=(Gr.has hk).2
  exact⟨by omega,by omega,by simp [Value.ownBlock]⟩)
 clear Gr hM wk lJ kh hpl lz c0 c2 c3
 go_enter func77,ntmps77
 go_wp2
 go_loopg [13] md.aR.length (λn i wr=>∃(j:Nat) (fs:List CF) (lk:List Us) (uv fv:Value),n+j=md.aR.length/\i=.int .i64 j/\Hy (f_ V.nm fnd m md.aR pk=(fs++(f_ V.nm fnd m (md.aR.drop j) lk).1,(f_ V.nm fnd m (md.aR.drop j) lk).2))/\fs.length=j/\lk.length+1000*Am m (md.aR.drop j)<=8000000000/\Hy (Z8 lo V uv fv w.heap.size (w.heap.size+1) fs lk w wr))
 case atStart=>exact⟨0,[],pk,KH,.slice none 0 0,by omega,rfl,by show _=_;simp,rfl,by simpa using hlk,KM.o⟩
 obtain⟨j,fs,lk,uv,fv,hj,rfl,HR,VR,ab9,HC⟩:=hrel;have jM:=HC.o.dB;obtain⟨d0,d1,d2,d3⟩:=HC.o.vw.field;have hv1:=HC.o.vw.lt;have q2:=ae HC.o.c2 0;have q1:=ae HC.o.c1 0;have q2f:=aj HC.o.c2;have q1f:=aj HC.o.c1;have q2l:=af HC.o.c2;have q1l:=af HC.o.c1;simp at q1 q2;have x1:=(aC jM Aj 1).trans Ji.o
 have hmr:V.mb<wr.heap.size:=by omega
 have D5:=aa jM;clear jM
 by_cases hlt:j<md.aR.length
 ·obtain⟨g,rfl,mi,Zl,hat⟩:=VB.o (by omega)
  have ox:=aa ((hat j hlt).below hS mi D5.o)
  have KA:g<wr.heap.size:=by omega
  have qG:=List.getElem_mem hlt;have HD:=aa (Hq V.nm fnd m md.aR j hlt lk);have fF:=E7 m md.aR j hlt;have oZ:=aa (show(dx fnd m md.aR[j] lk).lk.length+1000*Am m (md.aR.drop (j+1))<=8000000000 by have:=B6 fnd m md.aR[j] lk;omega);have ky:=aa (lI.o _ qG);have Yf:=aa (pq.o _ qG);have sH:=aa (TU.o _ qG)
  have Rt:lk.length+1000*sz (m+1) md.aR[j].br<=8000000000:=by omega
  obtain⟨xs,Gt,v_⟩:=HC.o.row;have abA:=aa Gt;rw [VR]at Gt;have VS:=aa Gt;have M6:=aa v_;obtain⟨so,sc,se⟩:=ak Gt
  have Ox:=aa (λ(wq:World) (hq:Below wr.heap.size wr wq)=>sO m S lo (λk=>k<wr.heap.size/\k≠V.b/\uv.ownBlock≠some k) hS wq V lk uv (HC.o.vw.below hq)
   (λk hk=>by have:=hq.size;omega) (λk hk hk2=>hk.elim hk2.2.1 hk2.2.2) (λk e=>⟨(aG HC.o.vw.imp k e).2,λe'=>HC.o.vw.n1 (by rw [<-e'];exact e),HC.o.vw.n3 k e⟩)
   g (j*10) md.aR[j] (ox.o.below hS mi (hq.mono (by omega))) mi fnd known (λC tb w1 e1 e2 hb=>V5.o C tb w1 e1 e2 ((D5.o.trans (hq.mono (by omega))).trans hb))
   (ja (md.aR[j].ay.map λx=>x.eF) md.aR[j].result) (λw' hb'=>tk w' g (j*10) md.aR[j] (((ox.o.below hS mi (hq.mono (by omega))).below hS mi hb').mono (by have:=hb'.size;have:=hq.size;omega)) (by have:=hb'.size;have:=hq.size;omega) sH.o) ky.o Yf.o Rt)
  have ze:=aa VR
  have b1:j+1<=maxLen:=by unfold maxLen;omega
  have b2:(j+1)*136<=140737488355328:=by omega
  clear hat qG fF Gt v_ ab9 VR;subst se;generalize hff:md.aR[j]=f at*;clear hff
  go_wp2_with fail
  go_region_law (first
    |(refine fp rfl 116 #[.tmp 18,.tmp 27] #[158,226] rfl Tryz.call116 #[.pointer (some ⟨V.b,0,none⟩),.pointer (some ⟨g,j*10,none⟩)] ?_ (Ox.o wr.drew ((Below.refl _ _).drew)) ?_;(simp [Act.eval,Act.put]);rintro e w3 ⟨pv,kv,lv,GM,rfl,VT,hv3,TZ,hk3,iY,hr3,TE⟩;obtain⟨po,pc,rfl⟩:=ak TZ;obtain⟨ko,kc,rfl⟩:=ak hk3;obtain⟨zo,zc,rfl⟩:=ak iY;refine⟨_,rfl,?_⟩;unfold Jk;have Hr:=aa VT;have Yd:=aa hv3;have DJ:=aa TZ;have iy:=aa hk3;have yU:=aa iY;have oB:=aa hr3;have N3:=aa TE;have Gu:=aa ((VT.tab (w.heap.size+1) ⟨q2l,λe=>(HC.o.d1 V.b (Or.inl rfl)).2.1 e.symm,λe=>(HC.o.d1 _ (Or.inr (Or.inr e))).2.1 rfl⟩).trans HC.o.c2);have r2:=ae Gu.o 0;have r2f:=aj Gu.o;have r2l:=af Gu.o;simp at r2;clear VT hv3 TZ hk3 iY hr3 TE)
    |(refine cv rfl (.tmp 17) (.tmp 29) 93 rfl lo 92 i0 (.agg #[.string ⟨#[]⟩,.string ⟨#[]⟩,.bool false,.slice none 0 0,.string ⟨#[]⟩,.int .i64 0,.slice none 0 0,.slice none 0 0]) 8 136 underlying93 hi hz0 hz1 hz2 rfl (by decide) (.slice so j sc) j xs ?_ ?_ ⟨w3.heap.size,0,none⟩ 1 1 (eY (AF V.nm fnd m f lk) (.slice po f.ay.length pc) (.slice ko (dx fnd m f lk).aK.length kc) (.slice zo (dx fnd m f lk).bq.length zc)) ?_ rfl ?_ ?_ b1 b2 ?_ ?_;(simp [Act.eval,Act.put]);(exact(bE VS.o (λk e l=>Hr.o.tab k ⟨l,λe'=>(HC.o.d1 V.b (Or.inl rfl)).2.2 (by rw [<-e'];exact e),λe'=>(HC.o.d1 k (Or.inr (Or.inr e'))).2.2 e⟩)).alloc _);(simp [Act.eval,Act.put]);(exact(zv w3 _ _ _ _ _ _ _ _ _));(exact TY _ _ _ _ _ _ _ _ rfl rfl rfl rfl rfl rfl rfl rfl);(simp;omega);intro v' w4 hown aB aJ;obtain⟨vo,vc,rfl⟩:=ak hown;have HG:=aa (aA aB);have ot:=aa hown;have Bh:=aa aJ;have fO:=(HG.o.block (w.heap.size+1) r2l (λe=>HC.o.d2.2 e.symm)).trans Gu.o;have k9:=ae fO 0;have kf:=aj fO;have kl:=af fO;simp at k9;clear hown aB aJ fO))
  all_goals
   (try go_wp2_with fail)
   have xJ:=aa (HC.o.put (f:=AF V.nm fnd m f lk) (w3:=w3) ⟨⟨Hr.o.dB.os,Hr.o.dB.tape,Hr.o.dB.output,Hr.o.dB.size,Hr.o.dB.block⟩,Hr.o.tab⟩ Yd.o (by show World.ownsRow _ _ _ _ _ _ _;simpa [AF]using DJ.o) iy.o yU.o oB.o N3.o xs abA.o M6.o (by rw [ze.o];exact ot.o) HG.o (λk e=>(Bh.o k e).imp id (λh=>by simp at h;omega)));go_wp2
   go_roundg (gk-1)
   case measure=>omega
   case rel=>
    refine⟨j+1,fs++ [AF V.nm fnd m f lk],(dx fnd m f lk).lk,GM,_,by omega,by first|rfl|go_num,?_,by have:=ze.o;simp;omega,oZ.o,xJ.o⟩
    show _=_;rw [HR.o,HD.o];simp
 have jU:j=md.aR.length:=by omega
 have HX:=aa (show f_ V.nm fnd m md.aR pk=(fs,lk) by rw [HR.o,jU,List.drop_length];simp [f_]);obtain⟨xs,Gt,v_⟩:=HC.o.row;obtain⟨so,sc,se⟩:=ak Gt;rw [show fs.length=md.aR.length by omega]at se;have VS:=aa Gt;have M6:=aa v_;clear Gt v_;subst se
 have E2:¬(j:Int)<(md.aR.length:Int):=by omega
 go_wp2
 have hb1:(wr.setCell ⟨w.heap.size,0,none⟩ (.slice so md.aR.length sc)).heap[w.heap.size]?=some (.cells #[.slice so md.aR.length sc] 151 (0,0)):=by rw [ax HC.o.c1];rfl
 have r0:=ae hb1 0;have rl:=af hb1;simp at r0
 have hne:∀k,jG V uv k->k≠w.heap.size:=λk hk=>(HC.o.d1 k hk).1
 refine bodyPost_ret (v:=.agg #[.slice so md.aR.length sc]) (by simp [results,results77,go_sem,r0,rl]) rfl ⟨.slice so md.aR.length sc,rfl,?_⟩;rw [HX.o];refine⟨D5.o.setCell (p:=⟨w.heap.size,0,none⟩) KL _,uv,HC.o.vw.set hne _ _,xs,a8 VS.o HC.o.d2.1 _ _,M6.o.keep λk hk hl=> ?_,λk e hk=>(HC.o.d1 k hk).2.2 e⟩;obtain⟨a1',a2',a3',a4',a5',a6',a7'⟩:=hk
 exact⟨⟨a1',λhv=>by rcases hv with e|e|e;exact a2' e;exact a4' e;exact a3' e⟩,Below.heap_setCell _ _ _ _ a5'⟩
end Go.Proofs.YtpmmjkiclngpmaaGreatDoor
