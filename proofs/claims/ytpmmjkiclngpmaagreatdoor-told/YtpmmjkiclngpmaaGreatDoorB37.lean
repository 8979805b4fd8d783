/- YtpmmjkiclngpmaaGreatDoorB37 -/
import Derived.Test.YtpmmjkiclngpmaaGreatDoorB36
import Derived.Test.YtpmmjkiclngpmaaGreatDoorB13
import Derived.Test.YtpmmjkiclngpmaaGreatDoorB28
set_option maxRecDepth 100000
set_option linter.unusedSimpArgs false
set_option linter.unusedVariables false
set_option maxHeartbeats 12800000
namespace Go.Proofs.YtpmmjkiclngpmaaGreatDoor
open Tryz
open Go.RowKit Go.Lib
theorem Lc:(prog.info? 185).map (λi=>(i.zero,i.size,i.bytes))=some (some (.agg #[.string ⟨#[]⟩,.string ⟨#[]⟩,.string ⟨#[]⟩]),3,48):=by kernel_rfl
theorem ud(w:World)(base n:Nat)(v:Value)(xs:List Value)(h:w.ownsRow base 185 3 v n xs)(hn:n<=40000000000)(h1:∀u∈xs,u.oneCell'=true):
  Calls prog 117 #[v] w λe w'=>∃v',e=.returned v'/\w'.ownsRow w.heap.size 185 3 v' n xs/\Below w.heap.size w w':=by
 obtain⟨i0,hi,hz0,hz1,hz2⟩:=info_parts Lc
 rcases h.2 with⟨rfl,rfl⟩|⟨g,cap,aU,rfl,hb0,aed,vJ,hcm,hcs,iX⟩
 ·refine(AnyE.slices_Clone_nil Tryz.cloneU 0 0 w).mono ?_
  rintro e w' ⟨rfl,rfl⟩;have hx:xs= []:=List.eq_nil_of_length_eq_zero (by simpa using h.1);subst hx;exact⟨_,rfl,World.ownsRow_nil _ _ _ _,Below.refl _ _⟩
 refine(AnyE.slices_Clone Tryz.cloneU i0 (.agg #[.string ⟨#[]⟩,.string ⟨#[]⟩,.string ⟨#[]⟩]) 3 48 hi hz0 hz1 hz2 rfl (by omega) sizeOf185 g 0 n cap xs w h.1 (by unfold maxLen;omega) (by omega) (λj u hj=> ?_) h1).mono ?_
 ·have xW:j<n*3:=by rw [<-h.1];exact(List.getElem?_eq_some_iff.1 hj).1
  rw [Nat.zero_add,dt h j xW];exact hj
 rintro e w' ⟨v',rfl,a,_,b⟩;exact⟨v',rfl,a,b⟩
theorem EM(a b:Nm):sK a b<0↔bytesBefore a b=true:=by
 unfold sK
 split
 ·next h=>simp [h]
 next h=>
 split
 ·simp [h]
 simp [h]
theorem BA(a b:Nm):sK a b=0↔a=b:=by
 constructor
 ·intro h
  rcases Classical.em (a=b)with e|e
  ·exact e
  ·unfold sK at h
   rcases WideAt.bytes_total a b e with q|q
   ·rw [if_pos q]at h;omega
   ·split at h
    ·omega
    ·first
     |(rw [if_pos q]at h;omega)
     |omega
 rintro rfl;simp [sK,WideAt.bytes_irrefl]
def kK(x y:Nm×Nm):Bool:=bytesBefore x.1 y.1||(x.1==y.1&&bytesBefore x.2 y.2)
theorem CW(x y:Nm×Nm):kK x y=true↔(bytesBefore x.1 y.1=true\/(x.1=y.1/\bytesBefore x.2 y.2=true)):=by simp [kK]
theorem p8(x y:Nm×Nm):ltOf Kp x y=kK x y:=by
 rw [Bool.eq_iff_iff,CW];unfold ltOf Kp XN;rw [decide_eq_true_iff]
 split
 ·next h=>
  rw [BA]at h;rw [EM]
  constructor
  ·exact λq=>Or.inr ⟨h,q⟩
  ·rintro(q|q)
   ·rw [h,WideAt.bytes_irrefl]at q;cases q
   ·exact q.2
 next h=>
 rw [BA]at h;rw [EM];exact⟨Or.inl,λq=>q.elim id (λq=>absurd q.1 h)⟩
theorem kL{x y z:Nm×Nm}(h1:kK x y=true)(h2:kK y z=true):kK x z=true:=by
 rw [CW]at*
 rcases h1 with h1|⟨e1,h1⟩<;>rcases h2 with h2|⟨e2,h2⟩
 ·exact Or.inl (WideShapes.bytes_trans _ _ _ h1 h2)
 ·exact Or.inl (by rw [<-e2];exact h1)
 ·exact Or.inl (by rw [e1];exact h2)
 exact Or.inr ⟨e1.trans e2,WideShapes.bytes_trans _ _ _ h1 h2⟩
theorem p9(x y:Nm×Nm)(h1:kK x y=false)(h2:kK y x=false):x=y:=by
 have n1:¬kK x y=true:=by rw [h1];simp
 have n2:¬kK y x=true:=by rw [h2];simp
 rw [CW]at n1 n2
 have e1:x.1=y.1:=by
  rcases Classical.em (x.1=y.1)with e|e
  ·exact e
  ·exact(WideAt.bytes_total _ _ e).elim (λq=>absurd (Or.inl q) n1) (λq=>absurd (Or.inl q) n2)
 have e2:x.2=y.2:=by
  rcases Classical.em (x.2=y.2)with e|e
  ·exact e
  ·exact(WideAt.bytes_total _ _ e).elim (λq=>absurd (Or.inr ⟨e1,q⟩) n1) (λq=>absurd (Or.inr ⟨e1.symm,q⟩) n2)
 exact Prod.ext e1 e2
theorem gA(x:Nm×Nm):kK x x=false:=by simp [kK,WideAt.bytes_irrefl]
theorem O8:Sort.SWO (ltOf Kp) where
 irrefl x:=by rw [p8];exact gA x
 trans x y z h1 h2:=by rw [p8]at*;exact kL h1 h2
 ntrans x y z h1 h2:=by
  rw [p8]at*
  rcases h3:kK x z with _|_
  ·rfl
  rcases h4:kK y x with _|_
  ·have:=p9 x y h1 h4
   subst this;rw [h2]at h3;cases h3
  have:=kL h4 h3;rw [h2]at this;cases this
theorem xm(sf:Nm×Nm->List UInt8)(l:List (Nm×Nm)):(Sort.flatK (nM sf) 3 l.toArray).toList=dz sf l:=by
 apply List.ext_getElem?
 intro t
 have hs:(Sort.flatK (nM sf) 3 l.toArray).size=l.length*3:=by simp
 by_cases ht:t<l.length*3
 ·have q:t/3<l.length:=by omega
  rw [Array.getElem?_toList,Array.getElem?_eq_getElem (by rw [hs];exact ht),<-getElem!_pos _ t (by rw [hs];exact ht),Sort.get_flatK _ _ _ t (by simpa using ht)]
  have e:l.toArray[t/3]! =l[t/3]:=by rw [getElem!_pos _ _ (by simpa using q)];simp
  rw [e];have:=qR sf l (t/3) q
  rcases (show t=(t/3)*3\/t=(t/3)*3+1\/t=(t/3)*3+2 by omega)with e|e|e
  ·rw [show t%3=0 by omega]
   have h1:=this.1;rw [<-e]at h1;rw [h1];rfl
  ·rw [show t%3=1 by omega]
   have h1:=this.2.1;rw [<-e]at h1;rw [h1];rfl
  ·rw [show t%3=2 by omega]
   have h1:=this.2.2;rw [<-e]at h1;rw [h1];rfl
 rw [List.getElem?_eq_none (by rw [Array.length_toList,hs];omega),List.getElem?_eq_none (by rw [mE];omega)]
theorem H0(sf:Nm×Nm->List UInt8)(w:World)(g cap n:Nat)(l d:List (Nm×Nm))(h:jT sf g cap l w)(hd:d.length=l.length)(os:Array Obj):
  jT sf g cap d (sortWorldK (nM sf) 3 w g 0 n d.toArray os)/\ei g w (sortWorldK (nM sf) 3 w g 0 n d.toArray os):=by
 obtain⟨aU,a,b,c⟩:=h.blk;have hF:=xm sf d;have hg:=af a
 have hs:(Sort.flatK (nM sf) 3 d.toArray).size=d.length*3:=by simp
 have hh:∀k,k<w.heap.size->(sortWorldK (nM sf) 3 w g 0 n d.toArray os).heap[k]?=(w.heap.modify g (Sort.onCells (Sort.putCells id 0 (Sort.flatK (nM sf) 3 d.toArray))))[k]?:=λk hk=>by
  show((w.heap.modify g _)++os)[k]?=_;rw [Array.getElem?_append_left (by simpa using hk)]
 constructor
 ·refine⟨Sort.putCells id 0 (Sort.flatK (nM sf) 3 d.toArray) aU,?_,by simpa [Sort.putCells]using b,?_⟩
  ·rw [hh g hg,Array.getElem?_modify,if_pos rfl,a]
   rfl
  ·rw [<-hF]
   have hl:l.length*3<=aU.size:=by
    have q:=congrArg List.length c;rw [mE,List.length_take]at q
    have q2:aU.toList.length=aU.size:=by simp
    omega
   apply List.ext_getElem?
   intro t;rw [List.getElem?_take]
   split
   ·next ht=>
    have VX:t<aU.size:=by omega
    have ZH:t<(Sort.flatK (nM sf) 3 d.toArray).size:=by rw [hs];exact ht
    simp only [Sort.putCells,Array.getElem?_toList,Array.getElem?_mapIdx,Array.getElem?_eq_getElem VX,Option.map_some];rw [if_pos ⟨Nat.zero_le _,by omega⟩,Nat.sub_zero,getElem!_pos _ t ZH,Array.getElem?_eq_getElem ZH]
    rfl
   ·next ht=>rw [List.getElem?_eq_none (by rw [Array.length_toList,hs];omega)]
 refine⟨rfl,rfl,rfl,?_,λk hk hne=> ?_⟩
 ·show w.heap.size<=((w.heap.modify g _)++os).size
  simp
 rw [hh k hk,Array.getElem?_modify,if_neg (λe=>hne e.symm)]
def eK(l:List (Nm×Nm)):List (Nm×Nm):=l.mergeSort λx y=> !kK y x
theorem Ld(sf:Nm×Nm->List UInt8)(w:World)(g cap:Nat)(l:List (Nm×Nm))(h:jT sf g cap l w)(hc:l.length<=cap)(hl:l.length<=40000000000):
  Calls prog 119 #[.slice (some ⟨g,0,none⟩) l.length cap,.func (.func 120) #[] #[]] w λe w'=>e=.returned (.tuple #[])/\jT sf g cap (eK l) w'/\ei g w w':=by
 have eg:∀args w,(callFunc 120 args).run prog w=.ok (.enter 120 args) w:=enters_of func120 (by kernel_rfl) rfl
 have hH:Sort.HoldsK (nM sf) 3 w g 0 l.toArray:=by
  intro j hj
  have xW:j<l.length*3:=by simpa using hj
  obtain⟨aU,a,b,c⟩:=h.blk;refine⟨?_,aj a _⟩;rw [Nat.zero_add,ae a]
  have e:aU[j]?=(dz sf l)[j]?:=by rw [<-c,List.getElem?_take,if_pos xW];simp
  rw [e,<-xm,Array.getElem?_toList,Array.getElem?_eq_getElem hj,getElem!_pos _ j hj]
  rfl
 have hcon:=AnyQ.slices_SortFunc_total Tryz.sortU 3 isAgg185 sizeOf185 (nM sf) (λ_=>rfl) (λx v hv=>by simp [nM]at hv;rcases hv with rfl|rfl|rfl<;>rfl) Kp O8 120 #[] g 0 cap l.toArray w eg (λm os dk _ x y=>Kq sf x y _) hH h.lt (by simp;omega) (λx y h1 h2=>by rw [p8]at h1 h2;exact p9 x y h1 h2)
 refine hcon.mono ?_;rintro e w' ⟨rfl,n,os,rfl⟩
 have e1:(l.toArray.toList.mergeSort λx y=> !ltOf Kp y x)=eK l:=by
  unfold eK
  congr 1
  funext x y
  rw [p8]
 rw [e1];exact⟨rfl,H0 sf w g cap n l (eK l) h (by unfold eK;exact List.length_mergeSort _) os⟩
end Go.Proofs.YtpmmjkiclngpmaaGreatDoor
namespace Go.Proofs.YtpmmjkiclngpmaaGreatDoor
open Tryz
open Go.RowKit
variable{lo:Nat}
def fg(u:Us):Nm×Nm:=(u.m,u.n)
theorem AI(sf:Nm×Nm->List UInt8)(l:List Us)(h:∀u∈l,u.s=sf (fg u)):bo l=dz sf (l.map fg):=by
 induction l with
 |nil=>rfl
 |cons x r ih=>
  have h1:=h x (by simp);rw [List.map_cons,show dz sf (fg x::r.map fg)=nM sf (fg x)++dz sf (r.map fg)from rfl,<-ih (λu hu=>h u (by simp [hu]))];show [.string ⟨x.m.toArray⟩,.string ⟨x.n.toArray⟩,.string ⟨x.s.toArray⟩]++bo r=_;rw [h1];rfl
def Sj(sf:Nm×Nm->List UInt8)(x:Nm×Nm):Us:=⟨x.1,x.2,sf x⟩
theorem tu(sf:Nm×Nm->List UInt8)(l:List (Nm×Nm)):dz sf l=bo (l.map (Sj sf)):=by
 induction l with
 |nil=>rfl
 |cons x r ih=>rw [List.map_cons,show dz sf (x::r)=nM sf x++dz sf r from rfl,ih];rfl
def lR(sf:Nm×Nm->List UInt8)(l:List (Nm×Nm)):List Us:=(bT (eK l)).map (Sj sf)
theorem O9(l:List Us):∀u∈bo l,u.oneCell'=true:=by
 intro u hu;unfold bo at hu;obtain⟨x,_,hx⟩:=List.mem_flatMap.1 hu;simp only [List.mem_cons,List.not_mem_nil,or_false]at hx
 rcases hx with rfl|rfl|rfl<;>rfl
theorem Sk(sf:Nm×Nm->List UInt8)(l:List (Nm×Nm)):∀u∈dz sf l,u.oneCell'=true:=by rw [tu];exact O9 _
def ry(sf:Nm×Nm->List UInt8)(l:List lu):List Us:=l.map λi=>⟨i.ag,[],sf (i.ag,[])⟩
theorem EN(w:World):Calls prog 123 #[.slice none 0 0] w λe w'=>e=.returned (.slice none 0 0)/\w'=w:=by
 go_enter func123,ntmps123
 go_wp2;go_ret;exact⟨rfl,rfl⟩
theorem ei.below{g:Nat}{w0 w w':World}(h:ei g w w')(hb:Below lo w0 w)(hg:lo<=g)(hl:lo<=w.heap.size):Below lo w0 w':=hb.trans ⟨h.os,h.tape,h.output,h.size,λk hk=>h.block k (by omega) (by omega)⟩
theorem OA{m:Nat}{S:Nat->Prop}(w:World)(V:VK)(lk:List Us)(uv:Value)(hv:Vw lo V lk uv w)(md:Mod)(eN:List (Option (Nat×Mod)))(hT:nY m S lo w V md eN)(hlk:lk.length<=8000000000)(sf:Nm×Nm->List UInt8)(hs1:∀u∈lk,u.s=sf (fg u))(hs2:∀j,(h1:j<md.aq.length)->(h2:j<eN.length)->fx (eN[j].map Prod.snd) []=sf (md.aq[j].ag,[])):
  Calls prog 78 #[.pointer (some ⟨V.b,0,none⟩)] w λe w'=>∃v',e=.returned v'/\Below w.heap.size w w'/\
   w'.ownsRow w.heap.size 185 3 v' (lR sf (lk.map fg++md.aq.map λi=>(i.ag,[]))).length (bo (lR sf (lk.map fg++md.aq.map λi=>(i.ag,[])))):=by
 have tI:lo<=w.heap.size:=by have:=hv.low;have:=hv.lt;omega
 obtain⟨c0,c1,c2,c3⟩:=hv.field;have M4:=hv.lt;obtain⟨io,ic,xH,_⟩:=hv.pts
 have hpl:V.pts.length=eN.length:=by rw [hT.pts];simp
 rw [xH,hpl]at c2;have CQ:=hT.ku;have Dz:=hT.len;have HV:=aa hv;have HT:=aa hT;have ky:=aa hs1;have kg:=aa hs2;obtain⟨so,sc,wH⟩:=ak hv.Rn;subst wH;have NF:=aa (ud w lo lk.length _ _ hv.Rn (by omega) (O9 lk));obtain⟨i0,hi,hz0,hz1,hz2⟩:=info_parts uW;clear hv hT hs1 hs2 xH c0 c1
 go_enter func78,ntmps78
 go_wp2_with fail
 refine NF.o.mono ?_;rintro e w1 ⟨v1,rfl,TH,hb1⟩;have d2:=(aC hb1 M4 2).trans c2
 have adn:V.b<w1.heap.size:=by have:=hb1.size;omega
 have eC:=aa hb1;have eo:=aa TH;clear hb1 TH;go_wp2
 go_loopg [3,15] eN.length (λn s3 i wr=>∃j:Nat,n+j=eN.length/\i=.int .i64 j/\Hy (wr.ownsRow w.heap.size 185 3 s3 (lk.length+j) (bo (lk++ry sf (md.aq.take j))))/\Hy (Below w.heap.size w wr))
 case atStart=>exact⟨0,by omega,rfl,by show World.ownsRow _ _ _ _ _ _ _;simpa [ry]using eo.o,eC.o⟩
 obtain⟨j,hj,rfl,HOr,eM⟩:=hrel;obtain⟨ro,rc,RX⟩:=ak HOr.o;subst RX;have hsz:=eM.o.size
 by_cases hlt:j<eN.length
 ·have Gj:j<md.aq.length:=by omega
  have eu:(j:Int)<(eN.length:Int):=by omega
  have wF:=aa (HV.o.below eM.o);have B1:=aa (HT.o.below (eM.o.mono tI));have HSj:=aa (kg.o j Gj hlt);have ou:=aa (show ry sf (md.aq.take (j+1))=ry sf (md.aq.take j)++ [⟨md.aq[j].ag,[],sf (md.aq[j].ag,[])⟩] by rw [List.take_succ_eq_append_getElem Gj];unfold ry;rw [List.map_append];rfl);have VD:=aa (Jp wr V lk _ wF.o (by omega) md eN B1.o j hlt Gj [])
  have b1:lk.length+j+1<=maxLen:=by unfold maxLen;omega
  have b2:(lk.length+j+1)*48<=140737488355328:=by omega
  go_wp2_with fail
  refine VD.o.mono ?_;rintro e w3 ⟨rfl,hb3⟩;rw [HSj.o];have dy:=aa (eM.o.trans (hb3.mono hsz));have hs3:=dy.o.size;have oJ:=aa (bE HOr.o λk _ l=>hb3.block k l);clear hb3;generalize lK:md.aq[j].ag=nm at*
  go_wp2_with (at_builtin;refine bC _ rfl (.tmp 18) (.tmp 22) 152 rfl w.heap.size 185 i0 (.agg #[.string ⟨#[]⟩,.string ⟨#[]⟩,.string ⟨#[]⟩]) 3 48 underlying152 hi hz0 hz1 hz2 rfl (by decide) (.slice ro (lk.length+j) rc) (lk.length+j) (bo (lk++ry sf (md.aq.take j))) rfl (oJ.o.alloc _) ⟨w3.heap.size,0,none⟩ 1 1 [.string ⟨nm.toArray⟩,.string ⟨#[]⟩,.string ⟨(sf (nm,[])).toArray⟩] rfl rfl (eU w3 _ _ _ _) ?h1 (by omega) b1 b2 ?h2 ?_)
  case h1=>
   intro u hu;simp only [List.mem_cons,List.not_mem_nil,or_false]at hu
   rcases hu with rfl|rfl|rfl<;>rfl
  case h2=>simp;omega
  intro g4 c4 w4 hown aB aJ;have ot:=aa (show w4.ownsRow w.heap.size 185 3 (.slice (some ⟨g4,0,none⟩) (lk.length+(j+1)) c4) (lk.length+(j+1)) (bo (lk++ry sf (md.aq.take (j+1)))) by rw [ou.o,<-List.append_assoc,sZ,<-lK];rw [<-lK]at hown;exact hown)
  have iw:=aa (show Below w.heap.size w w4 from by
   have hg:=aA aB
   exact⟨hg.os.trans dy.o.os,hg.tape.trans dy.o.tape,hg.output.trans dy.o.output,by have:=hg.size;omega,λk hk=>(hg.block k (by omega) (λe=>by have:=(aG oJ.o k e.symm).1;omega)).trans (dy.o.block k hk)⟩)
  clear hown aB aJ;go_wp2
  go_roundg (gk-1)
  case measure=>omega
  case rel=>exact⟨j+1,by omega,by first|rfl|go_num,ot.o,iw.o⟩
 have jU:j=eN.length:=by omega
 have HJ:=aa jU;clear jU
 have eu:¬(j:Int)<(eN.length:Int):=by omega
 have YQ:md.aq.length<=j:=by omega
 have wj:j<=1000:=by omega
 have HK:=aa (show(lk++ry sf (md.aq.take j)).map fg=lk.map fg++md.aq.map λi=>(i.ag,[]) by
  rw [List.map_append,List.take_of_length_le YQ];unfold ry;rw [List.map_map];rfl)
 have km:=aa (AI sf (lk++ry sf (md.aq.take j)) (λu hu=>by
  rcases List.mem_append.1 hu with hu|hu
  ·exact ky.o u hu
  ·unfold ry at hu
   obtain⟨i,_,rfl⟩:=List.mem_map.1 hu
   rfl))
 rw [HK.o]at km
 have CN:(lk.map fg++md.aq.map λi=>(i.ag,([]:List UInt8))).length=lk.length+j:=by have:=HJ.o;simp;omega
 obtain⟨keys,OB⟩:∃keys,(lk.map fg++md.aq.map λi=>(i.ag,([]:List UInt8)))=keys:=⟨_,rfl⟩;rw [OB]at km CN;have nI:=aa OB;clear OB HK;have how:=HOr.o;rw [km.o]at how
 rcases how.2 with⟨hv0,QI⟩|⟨g,cap,aU,hv0,hg0,aed,vJ,hcm,hcs,iX⟩
 ·have Dy:keys= []:=List.eq_nil_of_length_eq_zero (by omega)
  have HU:=aa (show lR sf keys= [] by rw [Dy];simp [lR,eK,bT]);simp only [Value.slice.injEq]at hv0;obtain⟨rfl,_,rfl⟩:=hv0;have HN:=aa QI;have Yi:=aa (show Calls prog 119 #[.slice none 0 0,.func (.func 120) #[] #[]] wr _ from AnyF.slices_SortFunc_none Tryz.sortU none 0 (.func (.func 120) #[] #[]) wr);have DN:=aa (EN wr);have kW:=aa (ud wr w.heap.size 0 (.slice none 0 0) [] (World.ownsRow_nil _ _ _ _) (by omega) (λu hu=>by cases hu));clear how CN Dy QI;rw [HN.o]
  go_wp2_with fail
  refine Yi.o.mono ?_;rintro e wr ⟨rfl,rfl⟩
  go_wp2_with fail
  refine DN.o.mono ?_;rintro e wr ⟨rfl,rfl⟩
  go_wp2_with fail
  refine kW.o.mono ?_;rintro e w5 ⟨v5,rfl,M8,cZ⟩;have Ai:=aa M8;have gT:=aa cZ;clear M8 cZ;go_wp2;go_ret;refine⟨v5,rfl,eM.o.trans (gT.o.mono hsz),?_⟩;rw [nI.o,HU.o];exact cI Ai.o hsz
 simp only [Value.slice.injEq]at hv0;obtain⟨rfl,_,rfl⟩:=hv0;have HRw:=aa (show jT sf g rc keys wr from⟨aU,aed,hcs,by rw [CN];exact iX⟩);have Yi:=aa (Ld sf wr g rc keys HRw.o (by omega) (by omega));rw [CN]at Yi;have TQ:=aa CN;have M9:=aa (show(eK keys).length=lk.length+j by unfold eK;rw [List.length_mergeSort];exact CN);clear how aed iX hcs CN
 go_wp2_with fail
 refine Yi.o.mono ?_;rintro e w3 ⟨rfl,hr3,ZH⟩;have oB:=aa hr3;have QJ:=aa ZH;have CY:=aa (EK sf w3 g rc (eK keys) hr3 (by rw [M9.o];exact vJ) hcm (by rw [M9.o];omega));rw [M9.o]at CY;clear hr3 ZH
 go_wp2_with fail
 refine CY.o.mono ?_;rintro e w4 ⟨rfl,hr4,ht4⟩
 have Zk:(bT (eK keys)).length<=lk.length+j:=by
  have:=uK (eK keys) (eK keys).length (Nat.le_refl _);rw [List.take_length,M9.o]at this;exact this
 have kW:=aa (ud w4 w.heap.size _ _ _ (hr4.owns (lo:=w.heap.size) hg0 (by omega) hcm) (by omega) (Sk _ _));have Q6:=aa (QJ.o.go ht4);clear hr4 ht4
 go_wp2_with fail
 refine kW.o.mono ?_;rintro e w5 ⟨v5,rfl,M8,cZ⟩;have Ai:=aa M8;have gT:=aa cZ;clear M8 cZ;go_wp2;go_ret;have hz4:=Q6.o.size;refine⟨v5,rfl,(Q6.o.below eM.o hg0 hsz).trans (gT.o.mono (by omega)),?_⟩;have:=Ai.o;rw [tu]at this
 have e1:(lR sf keys).length=(bT (eK keys)).length:=by simp [lR]
 rw [nI.o,e1];exact cI this (by omega)
end Go.Proofs.YtpmmjkiclngpmaaGreatDoor
