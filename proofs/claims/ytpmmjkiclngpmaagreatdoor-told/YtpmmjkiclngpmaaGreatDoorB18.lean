/- YtpmmjkiclngpmaaGreatDoorB18 -/
import Derived.Test.YtpmmjkiclngpmaaGreatDoorB17
import Derived.Test.YtpmmjkiclngpmaaGreatDoorB13
import Derived.Test.YtpmmjkiclngpmaaGreatDoorB11
import Derived.Test.YtpmmjkiclngpmaaGreatDoorB14
set_option maxRecDepth 100000
set_option linter.unusedSimpArgs false
set_option linter.unusedVariables false
set_option maxHeartbeats 12800000
namespace Go.Proofs.YtpmmjkiclngpmaaGreatDoor
open Tryz
open Go.RowKit Go.Maps Go.Lib
variable{pl:Sym->Option Nat}{b n lo g o:Nat}{w w' w1:World}{x:Sym}{c:List (Nat×Int)}{arr:Array Value}
def oY(w:World)(b n:Nat)(pl:Sym->Option Nat):Prop:=∃get,nL prog w 87 b n get/\∀x:Sym,x.1.length<=maxLen->x.2.length<=maxLen->get (Np x)=(pl x).map λk=> .int .i64 (k:Int)
theorem oY.new(w:World):oY (w.alloc (.map #[] 0)) w.heap.size 0 (λ_=>none):=⟨_,nL.new _ w _,λ_ _ _=>rfl⟩
theorem oY.lt(h:oY w b n pl):b<w.heap.size:=by obtain⟨g,a,_⟩:=h;exact a.lt
theorem oY.keep(h:oY w b n pl)(hk:w'.heap[b]?=w.heap[b]?):oY w' b n pl:=by obtain⟨g,a,c⟩:=h;exact⟨g,a.keep hk,c⟩
theorem oY.isMap(h:oY w b n pl):∃es cl,w.heap[b]?=some (.map es cl):=by obtain⟨g,a,_⟩:=h;exact a.isMap
theorem oY.ar(h:oY w b n pl)(h1:x.1.length<=maxLen)(h2:x.2.length<=maxLen):
  (Instr.lookup 240 (.map (some b)) (.agg #[.string ⟨x.1.toArray⟩,.string ⟨x.2.toArray⟩]) false).run prog w=.ok (.int .i64 (((pl x).getD 0:Nat):Int)) w:=by
 obtain⟨g,a,c⟩:=h;have:=a.ar Vf yG (zeroValue3 w) (xY h1 h2);rw [c x h1 h2]at this;rw [show Value.agg #[.string ⟨x.1.toArray⟩,.string ⟨x.2.toArray⟩]=qQ x from rfl,this]
 cases pl x<;>rfl
theorem oY.put(h:oY w b n pl)(hn:n<maxLen)(h1:x.1.length<=maxLen)(h2:x.2.length<=maxLen)(k:Nat):
  ∃w',(Instr.mapUpdate 240 (.map (some b)) (.agg #[.string ⟨x.1.toArray⟩,.string ⟨x.2.toArray⟩]) (.int .i64 (k:Int))).run prog w=.ok () w'/\oY w' b (n+1) (λy=>if y=x then some k else pl y)/\w.grownBy w' (some b):=by
 obtain⟨g,a,c⟩:=h;obtain⟨w',r,r1,r2⟩:=a.put Vf yG hn (val:=.int .i64 (k:Int)) (xY h1 h2);refine⟨w',r,⟨_,r1,λy Ry Rz=> ?_⟩,r2⟩
 by_cases e:y=x
 ·subst e;rw [upd_same];simp
 rw [vU _ _ _ _ (λe'=>e (Nq Ry Rz h1 h2 e'))];simp only [if_neg e];exact c y Ry Rz
theorem K5:(prog.info? 196).map (λi=>(i.zero,i.size,i.bytes))=some (some (.agg #[.int .i64 0,.int .i64 0]),2,16):=by kernel_rfl
theorem Vn(l:List (Nat×Int)):∀u∈cX l,u.oneCell'=true:=by
 intro u hu;unfold cX at hu;obtain⟨x,_,hx⟩:=List.mem_flatMap.1 hu;simp only [List.mem_cons,List.not_mem_nil,or_false]at hx
 rcases hx with rfl|rfl<;>rfl
theorem GS(w:World)(base n:Nat)(v:Value)(xs:List Value)(h:w.ownsRow base 196 2 v n xs)(hn:n<=40000000000)(h1:∀u∈xs,u.oneCell'=true):
  Calls prog 183 #[v] w λe w'=>∃v',e=.returned v'/\w'.ownsRow w.heap.size 196 2 v' n xs/\Below w.heap.size w w':=by
 obtain⟨i0,hi,hz0,hz1,hz2⟩:=info_parts K5
 rcases h.2 with⟨rfl,rfl⟩|⟨g,cap,aU,rfl,hb0,aed,vJ,hcm,hcs,iX⟩
 ·refine(AnyE.slices_Clone_nil Tryz.cloneI 0 0 w).mono ?_
  rintro e w' ⟨rfl,rfl⟩;have hx:xs= []:=List.eq_nil_of_length_eq_zero (by simpa using h.1);subst hx;exact⟨_,rfl,World.ownsRow_nil _ _ _ _,Below.refl _ _⟩
 refine(AnyE.slices_Clone Tryz.cloneI i0 (.agg #[.int .i64 0,.int .i64 0]) 2 16 hi hz0 hz1 hz2 rfl (by omega) sizeOf196 g 0 n cap xs w h.1 (by unfold maxLen;omega) (by omega) (λj u hj=> ?_) h1).mono ?_
 ·have xW:j<n*2:=by rw [<-h.1];exact(List.getElem?_eq_some_iff.1 hj).1
  rw [Nat.zero_add,dt h j xW];exact hj
 rintro e w' ⟨v',rfl,a,_,b⟩;exact⟨v',rfl,a,b⟩
def Gq(pl:Sym->Option Nat)(x:Sym):Nat:=(pl x).getD 0
def yO(pl:Sym->Option Nat)(f:CF):CF:={f with aK:=f.aK.map (yF (Gq pl) f.bq),bq:= []}
structure K6 (f:CF):Prop where
 len:f.aK.length<=1000000
 idx:∀x∈f.aK,x.1=5->0<=x.2/\x.2.toNat<f.bq.length
 nam:∀x∈f.bq,x.1.length<=100000/\x.2.length<=100000
 tM:f.bq.length<=1000000
 own:f.mod.length<=100000/\f.ag.length<=100000
theorem xa(l:List (List UInt8×List UInt8))(j:Nat)(hj:j<l.length):(fR l)[j*2]?=some (.string ⟨l[j].1.toArray⟩)/\(fR l)[j*2+1]?=some (.string ⟨l[j].2.toArray⟩):=by
 induction l generalizing j with
 |nil=>simp at hj
 |cons x r ih=>
  rw [show fR (x::r)=.string ⟨x.1.toArray⟩:: .string ⟨x.2.toArray⟩::fR r from rfl]
  cases j with
  |zero=>simp
  |succ j=>
   have:=ih j (by simpa using hj);rw [show(j+1)*2=j*2+2 by omega];simpa using this
structure Bn (lo g o:Nat) (arr:Array Value) (t:TypeId) (kv:Value) (w1:World) (c:List (Nat×Int)) (w:World):Prop where
 but:bG (λk=>k=g\/kv.ownBlock=some k) w1 w
 blk:w.heap[g]?=some (.cells (arr.setIfInBounds (o+6) kv) t (0,0))
 uD:w.ownsRow lo 196 2 kv c.length (cX c)
theorem Bn.below{t:TypeId}{kv:Value}(h:Bn lo g o arr t kv w1 c w)(hb:Below w.heap.size w w'):Bn lo g o arr t kv w1 c w':=
 ⟨h.but.trans (bG.aW hb),(hb.block _ (af h.blk)).trans h.blk,bE h.uD λk _ l=>hb.block k l⟩
theorem Bn.put{kb cap:Nat}{t:TypeId}(h:Bn lo g o arr t (.slice (some ⟨kb,0,none⟩) n cap) w1 c w)(hk:kb≠g)(j:Nat)(hj:j<c.length)(v:Int):
  Bn lo g o arr t (.slice (some ⟨kb,0,none⟩) n cap) w1 (c.set j (c[j].1,v)) (w.setCell ⟨kb,j*2+1,none⟩ (.int .i64 v)):=by
 refine⟨h.but.set (Or.inl (Or.inr rfl)) _ _,(Below.heap_setCell _ _ _ _ (Ne.symm hk)).trans h.blk,?_⟩
 have hn:n=c.length:=by
  obtain⟨o,c,e⟩:=ak h.uD;simp only [Value.slice.injEq]at e;exact e.2.1
 subst hn;have:=jQ h.uD (j*2+1) (.int .i64 v);rw [uG _ _ hj]at this;rw [List.length_set];exact this
def lY(L:Nat×Int->Nat×Int)(c:List (Nat×Int))(j:Nat):List (Nat×Int):=(c.take j).map L++c.drop j
theorem kG(L:Nat×Int->Nat×Int)(c:List (Nat×Int))(j:Nat):(lY L c j).length=c.length:=by
 unfold lY;rw [List.length_append,List.length_map,List.length_take,List.length_drop];omega
theorem yP(L:Nat×Int->Nat×Int)(c:List (Nat×Int))(j:Nat)(hj:j<c.length):(lY L c j)[j]'(by rw [kG];exact hj)=c[j]:=by
 unfold lY;rw [List.getElem_append_right (by rw [List.length_map,List.length_take];omega)];simp only [List.length_map,List.length_take,List.getElem_drop]
 congr 1;omega
theorem yQ(L:Nat×Int->Nat×Int)(c:List (Nat×Int))(j:Nat)(hj:j<c.length):lY L c (j+1)=(lY L c j).set j (L c[j]):=by
 unfold lY
 have hl:((c.take j).map L).length=j:=by rw [List.length_map,List.length_take];omega
 rw [List.set_append_right _ _ (by omega),hl,Nat.sub_self,List.take_succ_eq_append_getElem hj,List.map_append]
 have:(c.drop j).set 0 (L c[j])=L c[j]::c.drop (j+1):=by rw [List.drop_eq_getElem_cons hj];rfl
 rw [this];simp
theorem GU(L:Nat×Int->Nat×Int)(c:List (Nat×Int))(j:Nat)(hj:j<c.length)(h:L c[j]=c[j]):lY L c (j+1)=lY L c j:=by
 rw [yQ L c j hj,h];have:=yP L c j hj;rw [<-this,List.set_getElem_self]
theorem ND(w:World)(g o:Nat)(arr:Array Value)(t:TypeId)(aed:w.heap[g]?=some (.cells arr t (0,0)))(f:CF)(pv kv lv:Value){S:Nat->Prop}(c6:arr[o+6]?=some kv)(c7:arr[o+7]?=some lv)(hr:oz S w f pv kv lv)(hS:∀k,S k->k≠g)(mb n:Nat)(pl:Sym->Option Nat)(hp:oY w mb n pl)(bp:K6 f):
  Calls prog 124 #[.pointer (some ⟨g,o,none⟩),.map (some mb)] w λe w'=>e=.returned (.tuple #[])/\∃kv',bG (λk=>k=g) w w'/\w'.heap[g]?=some (.cells ((arr.setIfInBounds (o+6) kv').setIfInBounds (o+7) (.slice none 0 0)) t (0,0))/\
   w'.ownsRow w.heap.size 196 2 kv' f.aK.length (cX (f.aK.map (yF (Gq pl) f.bq))):=by
 have eP:=af aed;have XL:=aj aed;have d6:=(ae aed (o+6)).trans c6;have d7:=(ae aed (o+7)).trans c7;have hlen:=bp.len;have NF:=aa (GS w 0 f.aK.length kv (cX f.aK) hr.co.1 (by omega) (Vn _));have A7:=aa hr.ca.1;have abp:=aa hr.ca.2;have HS:=aa hS;have HP:=aa hp;have iD:=aa bp;have hsz:o+7<arr.size:=(Array.getElem?_eq_some_iff.1 c7).1
 have hmg:mb≠g:=λe=>by obtain⟨es,cl,h⟩:=hp.isMap;rw [e,aed]at h;cases h
 have qD:=aa aed;have gO:=hp.lt;obtain⟨ko0,kc0,abq⟩:=ak hr.co.1;obtain⟨lo0,lc0,abr⟩:=ak hr.ca.1;subst abq abr;clear hr hS hp bp aed
 go_enter func124,ntmps124
 go_wp2_with fail
 refine NF.o.mono ?_;rintro e w1 ⟨kv',rfl,TH,hb1⟩;obtain⟨ko,kc,RA⟩:=ak TH;subst RA;have e6:=(aC hb1 eP (o+6)).trans d6;have e7:=(aC hb1 eP (o+7)).trans d7;have hB1:=(hb1.block g eP).trans qD.o;have acX:=aj hB1;have acY:=af hB1;have eC:=aa hb1
 have hkg:(Value.slice ko f.aK.length kc).ownBlock≠some g:=λe=>by have:=(aG TH g e).1;omega
 have qd:=aa (show Bn w.heap.size g o arr t (.slice ko f.aK.length kc) w1 (lY (yF (Gq pl) f.bq) f.aK 0) (w1.setCell ⟨g,o+6,none⟩ (.slice ko f.aK.length kc))from by
  refine⟨(bG.refl _ _).set (Or.inl (Or.inl rfl)) _ _,by rw [ax hB1],?_⟩;rw [kG]
  have:lY (yF (Gq pl) f.bq) f.aK 0=f.aK:=by simp [lY]
  rw [this]
  exact a8 TH hkg _ _)
 have HKg:=aa hkg;clear TH hb1 hB1 hkg;go_wp2
 go_loopg [19] f.aK.length (λgk i wr=>∃j:Nat,gk+j=f.aK.length/\i=.int .i64 j/\Hy (Bn w.heap.size g o arr t (.slice ko f.aK.length kc) w1 (lY (yF (Gq pl) f.bq) f.aK j) wr))
 case atStart=>exact⟨0,by omega,rfl,qd.o⟩
 obtain⟨j,hj,rfl,eM⟩:=hrel;have b6:=ae eM.o.blk (o+6);have b7:=ae eM.o.blk (o+7);have bf:=aj eM.o.blk;have bl:=af eM.o.blk;rw [Array.getElem?_setIfInBounds_self_of_lt (by omega)]at b6;rw [Array.getElem?_setIfInBounds_ne (by omega),c7]at b7
 by_cases hlt:j<f.aK.length
 ·obtain⟨kb,cap,aU,Vo,_,hkb,_⟩:=cN eM.o.uD (by rw [kG];omega)
  rw [kG]at Vo;simp only [Value.slice.injEq,true_and]at Vo;obtain⟨rfl,rfl⟩:=Vo;have YN:=af hkb;have hkf:=aj hkb
  have abt:kb≠g:=λe=>HKg.o (by rw [<-e];rfl)
  have GV:=eM.o.uD;rw [kG]at GV
  have Dz:j<(lY (yF (Gq pl) f.bq) f.aK j).length:=by rw [kG];exact hlt
  have r0:=(dt GV (j*2) (by omega)).trans (qP _ j Dz).1;have r1:=(dt GV (j*2+1) (by omega)).trans (qP _ j Dz).2;rw [yP _ _ _ hlt]at r0 r1
  have Vp:j<kc:=by
   have:=eM.o.uD;rw [kG]at this
   rcases this.2 with⟨h,_⟩|⟨g',cap',cur',h,_,_,vJ,_⟩
   ·cases h
   ·simp only [Value.slice.injEq]at h;omega
  have oZ:=aa (yQ (yF (Gq pl) f.bq) f.aK j hlt);have TI:=aa (GU (yF (Gq pl) f.bq) f.aK j hlt);have ox:=aa (yP (yF (Gq pl) f.bq) f.aK j hlt);have HIx:=aa (iD.o.idx _ (List.getElem_mem hlt));have K7:=eM.o.but.size
  by_cases h5:f.aK[j].1=5
  ·obtain⟨nW,ur⟩:=HIx.o h5
   obtain⟨i,hi⟩:∃i:Nat,f.aK[j].2=(i:Int):=⟨f.aK[j].2.toNat,by omega⟩
   have RB:i<f.bq.length:=by rw [hi]at ur;simpa using ur
   have HL:=aa (show yF (Gq pl) f.bq f.aK[j]=(5,((Gq pl f.bq[i]:Nat):Int)) by
    unfold yF;rw [if_pos h5,hi,Int.toNat_natCast]
    simp [List.getD,RB])
   have o_:=aa h5;rw [h5]at r0;rw [hi]at r1;have QD:=A7.o;obtain⟨cb,acZ,ac_,hcv,_,hcb,hcc,_⟩:=cN QD (by omega);simp only [Value.slice.injEq,true_and]at hcv;obtain⟨rfl,rfl⟩:=hcv;have abu:=abp.o cb rfl;have YO:=HS.o cb abu;have Vq:=af hcb;have q0:=(dt QD (i*2) (by omega)).trans (xa f.bq i RB).1;have q1:=(dt QD (i*2+1) (by omega)).trans (xa f.bq i RB).2
   have Jf:∀k,k<w.heap.size->k≠g->wr.heap[k]?=w.heap[k]?:=λk hk hne=>by
    have h1:=eC.o.size
    have h2:(Value.slice (some ⟨kb,0,none⟩) f.aK.length kc).ownBlock≠some k:=λe=>by
     have:=(aG GV k e).1;omega
    exact(eM.o.but.block k (by omega) (λh=>h.elim hne h2)).trans (eC.o.block k hk)
   have s0:=(World.cell?_of_block (a:=⟨cb,i*2,none⟩) (Jf cb Vq YO)).trans q0;have s1:=(World.cell?_of_block (a:=⟨cb,i*2+1,none⟩) (Jf cb Vq YO)).trans q1
   have YP:cb<wr.heap.size:=by have:=eC.o.size;omega
   have lK:=iD.o.nam _ (List.getElem_mem RB);obtain⟨X,hX⟩:∃X,wr.alloc (.cells #[.int .i64 5,.int .i64 (i:Int)] 196)=X:=⟨_,rfl⟩
   have qg:Below wr.heap.size wr X:=by rw [<-hX];exact(Below.refl _ _).alloc (Nat.le_refl _) _
   have RD:=aa (eM.o.below qg)
   have hlk:(Instr.lookup 240 (.map (some mb)) (.agg #[.string ⟨f.bq[i].1.toArray⟩,.string ⟨f.bq[i].2.toArray⟩]) false).run prog X.drew=.ok (.int .i64 ((Gq pl f.bq[i]:Nat):Int)) X.drew:=
    ((HP.o.keep (w':=wr) (Jf mb gO hmg)).keep (w':=X.drew) (qg.drew.block mb (by have:=eC.o.size;omega))).ar (by unfold maxLen;omega) (by unfold maxLen;omega)
   have y6:=(aC qg bl (o+6)).trans b6;have y7:=(aC qg bl (o+7)).trans b7;have yk:=(aC qg YN (j*2+1)).trans r1
   have yl:g<X.heap.size:=by have:=qg.size;omega
   have ykl:kb<X.heap.size:=by have:=qg.size;omega
   have ykf:∀o,X.frozen? ⟨kb,o,none⟩=false:=λo=>(World.frozen?_of_block (a:=⟨kb,o,none⟩) (qg.block _ YN)).trans (hkf o)
   have yc0:=(aC qg YP (i*2)).trans s0;have yc1:=(aC qg YP (i*2+1)).trans s1
   have ycl:cb<X.heap.size:=by have:=qg.size;omega
   have x0:X.cell? ⟨wr.heap.size,0,none⟩=some (.int .i64 5):=by rw [<-hX];simp
   have x1:X.cell? ⟨wr.heap.size,1,none⟩=some (.int .i64 (i:Int)):=by rw [<-hX];simp
   have xl:wr.heap.size<X.heap.size:=by rw [<-hX];simp
   have HX:=aa hX;have xJ:=aa ((RD.o.below (w':=X.drew) ((Below.refl _ _).drew)).put abt j Dz ((Gq pl f.bq[i]:Nat):Int))
   have YQ:i<lc0:=by omega
   clear hX qg Jf QD hcb hi h5 nW ur hkb GV q0 q1;generalize vW:f.bq[i]=sy at*;generalize f.aK[j]=ij at*
   go_wp2_with fail
   rw [HX.o]
   go_wp2_with fail
   go_region
   all_goals
    (try go_wp2)
    go_roundg (gk-1)
    case measure=>omega
    case rel=>
     refine⟨j+1,by omega,by first|rfl|go_num,?_⟩
     show Bn _ _ _ _ _ _ _ _ _;rw [oZ.o,HL.o];have:=xJ.o;rw [ox.o,o_.o]at this;exact this
  ·have HL:=aa (TI.o (by unfold yF;rw [if_neg h5]))
   have h5':¬((f.aK[j].1:Nat):Int)=5:=by omega
   have lF:=aa (eM.o.below (w':=wr.alloc (.cells #[.int .i64 (f.aK[j].1:Int),.int .i64 f.aK[j].2] 196)) ((Below.refl _ _).alloc (Nat.le_refl _) _));generalize f.aK[j]=ij at*;go_wp2
   go_roundg (gk-1)
   case measure=>omega
   case rel=>
    refine⟨j+1,by omega,by first|rfl|go_num,?_⟩
    show Bn _ _ _ _ _ _ _ _ _;rw [HL.o];exact lF.o
 have jU:j=f.aK.length:=by omega
 have eu:¬(j:Int)<(f.aK.length:Int):=by omega
 have kr:=aa (show lY (yF (Gq pl) f.bq) f.aK j=f.aK.map (yF (Gq pl) f.bq) by rw [jU];simp [lY]);go_wp2
 go_end0
 refine⟨rfl,?_,.slice ko f.aK.length kc,?_,?_⟩
 ·have mF:=eM.o.but
  have GV:=eM.o.uD;have h1:=eC.o;exact bG.set (T:=λk=>k=g) (a:=w) (w:=wr) ⟨mF.os.trans h1.os,mF.tape.trans h1.tape,mF.output.trans h1.output,Nat.le_trans h1.size mF.size,λk hk hne=>(mF.block k (by have:=h1.size;omega) (λh=>h.elim hne (λe=>by have:=(aG GV k e).1;omega))).trans (h1.block k hk)⟩ (Or.inl rfl) _ _
 ·rw [ax eM.o.blk]
 have:=eM.o.uD;rw [kr.o,List.length_map]at this;exact a8 this HKg.o _ _
end Go.Proofs.YtpmmjkiclngpmaaGreatDoor
