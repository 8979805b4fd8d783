/- YtpmmjkiclngpmaaGreatDoorB32 -/
import Derived.Test.YtpmmjkiclngpmaaGreatDoorB30
import Derived.Test.YtpmmjkiclngpmaaGreatDoorB13
import Derived.Test.YtpmmjkiclngpmaaGreatDoorB31
set_option maxRecDepth 100000
set_option linter.unusedSimpArgs false
set_option linter.unusedVariables false
set_option maxHeartbeats 12800000
namespace Go.Proofs.YtpmmjkiclngpmaaGreatDoor
open Tryz
open Go.RowKit Go.Lib
variable{tr:Nm->Option (Nat×Mod)}{L:List Md}{fb lo:Nat}{w:World}
abbrev RZ:={u:Us//u.m.length<=100000}
abbrev RZ.Z1:Inhabited RZ:=⟨⟨⟨[],[],[]⟩,by simp⟩⟩
def encS(u:RZ):List Value:= [.string ⟨u.1.m.toArray⟩,.string ⟨u.1.n.toArray⟩,.string ⟨u.1.s.toArray⟩]
theorem Jr(a b:Value)(w:World):(Instr.field 107 (.agg #[a,b]) 0).run prog w=.ok a w:=by kernel_rfl
theorem Js(a:Value)(w:World):(Instr.field 129 (.agg #[a]) 0).run prog w=.ok a w:=by kernel_rfl
theorem R_(a b c:Value)(w:World):(Instr.field 154 (.agg #[a,b,c]) 1).run prog w=.ok (.agg #[b]) w:=by kernel_rfl
def mX(E:Nm->Option Mod)(u:Us):Bool:=fx (E u.m) u.n==u.s
theorem KW{W:World}(h:dW lo w fb L tr)(hs:∀m∈L,m.ag.length<=8/\m.now.length<=600)(B:Nat)(hB:B<w.heap.size)(hc:w.cell? ⟨B,0,none⟩=some (.map (some fb)))(x:RZ)(hW:Below w.heap.size w W):
  Calls prog 111 #[.agg #[.string ⟨x.1.m.toArray⟩,.string ⟨x.1.n.toArray⟩,.string ⟨x.1.s.toArray⟩],.pointer (some ⟨B,0,none⟩)] W λe w'=>e=.returned (.bool (!mX (aP L) x.1))/\Below w.heap.size w w':=by
 obtain⟨⟨um,un,us⟩,hu⟩:=x;simp only at hu⊢
 have gO:um.length<=maxLen:=by unfold maxLen;omega
 have c0:=(aC hW hB 0).trans hc
 have hBW:B<W.heap.size:=by have:=hW.size;omega
 have hb1:Below w.heap.size w ((W.alloc (.cells #[.string ⟨um.toArray⟩,.string ⟨un.toArray⟩,.string ⟨us.toArray⟩] 185)).drew):=(hW.alloc hW.size _).drew;have eC:=aa hb1;have hf:=h.below hb1;have hlk:=hf.ar um gO;have KR:=aa (hf.may hs um)
 have wG:B≠W.heap.size:=by omega
 have HE:=aa (show mX (aP L) ⟨um,un,us⟩=(fx ((tr um).map Prod.snd) un==us) by unfold mX;rw [h.is]);have Vx:=Jr;clear hb1 hf h
 go_enter func111,ntmps111
 go_wp2_with fail
 go_region_law (refine fp rfl 112 #[.tmp 8,.tmp 10] #[105,9] rfl Tryz.call112 #[.pointer (gy (tr um)),.string ⟨un.toArray⟩] ?_ (E8 _ (tr um) KR.o un) ?_;(simp [Act.eval,Act.put]);rintro e w3 ⟨rfl,hb3⟩;refine⟨_,rfl,?_⟩;have dy:=aa (eC.o.trans (hb3.mono eC.o.size));have oP:=hb3.block W.heap.size (by simp);have r2:=(World.cell?_of_block (a:=⟨W.heap.size,2,none⟩) oP);have rl:W.heap.size<w3.heap.size:=(by have:=hb3.size;simp at this;omega);simp at r2;clear hb3 oP)
 all_goals
  (try go_wp2_with fail)
  go_ret;exact⟨bD (by rw [HE.o]),dy.o⟩
theorem Ho(fv:Value)(w:World):Calls prog 172 #[.slice none 0 0,fv] w λe w'=>e=.returned (.int .i64 (-1))/\w'=w:=by
 go_enter func172,ntmps172
 go_wp2
 go_loop [8] (λi=>i=.int .i64 0) (λi=>0)
 case atStart=>rfl
 subst hrel;go_wp2;go_ret;exact⟨rfl,rfl⟩
theorem AD(fv:Value)(w:World):Calls prog 110 #[.slice none 0 0,fv] w λe w'=>e=.returned (.bool false)/\w'=w:=by
 go_enter func110,ntmps110
 go_wp2_with fail
 refine(Ho fv w).mono ?_;rintro e w ⟨rfl,rfl⟩;go_wp2;go_ret;exact⟨rfl,rfl⟩
theorem EC(l:List Us)(j:Nat)(hj:j<l.length):(bo l)[j*3]?=some (.string ⟨l[j].m.toArray⟩)/\(bo l)[j*3+1]?=some (.string ⟨l[j].n.toArray⟩)/\(bo l)[j*3+2]?=some (.string ⟨l[j].s.toArray⟩):=by
 induction l generalizing j with
 |nil=>simp at hj
 |cons x r ih=>
  rw [show bo (x::r)=.string ⟨x.m.toArray⟩:: .string ⟨x.n.toArray⟩:: .string ⟨x.s.toArray⟩::bo r from rfl]
  cases j with
  |zero=>exact⟨rfl,rfl,rfl⟩
  |succ j=>
   have:=ih j (by simpa using hj);rw [show(j+1)*3=j*3+1+1+1 by omega];simpa using this
theorem Om(h:dW lo w fb L tr)(hs:∀m∈L,m.ag.length<=8/\m.now.length<=600)(uv:Value)(us:List Us)(hr:w.ownsRow 0 185 3 uv us.length (bo us))(hu:∀u∈us,u.m.length<=100000)(hn:us.length<=1000000000000):
  Calls prog 74 #[.map (some fb),uv] w λe w'=>e=.returned (.bool (us.all (mX (aP L))))/\Below w.heap.size w w':=by
 have D5:=aa (show Below w.heap.size w (w.alloc (.cells #[.map (some fb)] 99))from(Below.refl _ _).alloc (Nat.le_refl _) _)
 rcases hr.2 with⟨rfl,h0⟩|⟨g,cap,aU,rfl,hg0,aed,vJ,hcm,hcs,iX⟩
 ·have hx:us= []:=List.eq_nil_of_length_eq_zero h0
  subst hx;have HC:=aa (λfv=>AD fv (w.alloc (.cells #[.map (some fb)] 99)));clear h hr hu hn h0
  go_enter func74,ntmps74
  go_wp2_with fail
  refine(HC.o _).mono ?_;rintro e w1 ⟨rfl,rfl⟩;go_wp2;go_ret;exact⟨rfl,D5.o⟩
 have eg:∀args w,(callFunc 111 args).run prog w=.ok (.enter 111 args) w:=enters_of func111 (by kernel_rfl) rfl;have eP:=af aed
 have hzs:(us.attach.map λu=>(⟨u.1,hu u.1 u.2⟩:RZ)).length=us.length:=by simp
 have QG:∀j,(hj:j<us.length)->((us.attach.map λu=>(⟨u.1,hu u.1 u.2⟩:RZ))[j]'(by rw [hzs];exact hj)).1=us[j]:=λj hj=>by simp
 have VL:((us.attach.map λu=>(⟨u.1,hu u.1 u.2⟩:RZ)).any λx=> !mX (aP L) x.1)= !us.all (mX (aP L)):=by
  rw [List.any_map,Bool.eq_iff_iff];simp
 obtain⟨zs,hzz⟩:∃zs,(us.attach.map λu=>(⟨u.1,hu u.1 u.2⟩:RZ))=zs:=⟨_,rfl⟩;rw [hzz]at hzs VL
 have hp:PredBelow prog 111 #[.pointer (some ⟨w.heap.size,0,none⟩)] (λx=> .agg (encS x).toArray) (λx=> !mX (aP L) x.1) (w.alloc (.cells #[.map (some fb)] 99)):=
  λW x hb=>KW (h.below D5.o) hs w.heap.size (by simp) (by simp) x hb
 have adi:=RZ.Z1
 have hcon:=AnyQ.slices_ContainsFunc Tryz.containsU 3 isAgg185 sizeOf185 encS (λ_=>rfl) (λx=> !mX (aP L) x.1) 111 #[.pointer (some ⟨w.heap.size,0,none⟩)] eg g 0 us.length cap zs (w.alloc (.cells #[.map (some fb)] 99)) hp (by omega) (by omega) (by simp;omega) (λj hj i v hi=>by
  have xW:j<us.length:=by omega
  have e:zs[j]!.1=us[j]:=by rw [getElem!_pos zs j hj];subst hzz;exact QG j xW
  have hcell:∀i,i<us.length*3->(w.alloc (.cells #[.map (some fb)] 99)).cell? ⟨g,i,none⟩=(bo us)[i]?:=λi hi=>by
   rw [World.cell?_of_block (Below.heap_alloc _ _ _ eP)];exact dt hr i hi
  have hat:=EC us j xW;unfold encS at hi;rw [e]at hi
  match i,hi with
  |0,hi=>simp at hi;subst hi;rw [Nat.zero_add,Nat.add_zero,hcell _ (by omega)];exact hat.1
  |1,hi=>simp at hi;subst hi;rw [Nat.zero_add,hcell _ (by omega)];exact hat.2.1
  |2,hi=>simp at hi;subst hi;rw [Nat.zero_add,hcell _ (by omega)];exact hat.2.2
  |i+3,hi=>simp at hi)
 rw [List.take_of_length_le (by omega),VL]at hcon;have HC:=aa (show Calls prog 110 #[.slice (some ⟨g,0,none⟩) us.length cap,.func (.func 111) #[] #[.pointer (some ⟨w.heap.size,0,none⟩)]] (w.alloc (.cells #[.map (some fb)] 99)) _ from hcon);clear hcon hp VL QG hr aed iX
 go_enter func74,ntmps74
 go_wp2_with fail
 refine HC.o.mono ?_;rintro e w1 ⟨rfl,hb1⟩;have eC:=aa (D5.o.trans (hb1.mono D5.o.size));clear hb1;go_wp2;go_ret;exact⟨bD (by simp),eC.o⟩
end Go.Proofs.YtpmmjkiclngpmaaGreatDoor
namespace Go.Proofs.YtpmmjkiclngpmaaGreatDoor
open Tryz
open Go.RowKit
variable{w0 w:World}{pts:List (Option Addr)}{iv:Value}{mb lo vb:Nat}{nm:Nm}
theorem KX:(prog.info? 105).map (λi=>(i.zero,i.size,i.bytes))=some (some (.pointer none),1,8):=by kernel_rfl
theorem zu(w:World)(a:Value)(t:TypeId):∀j u,[a][j]?=some u->(w.alloc (.cells #[a] t)).cell? ((⟨w.heap.size,0,none⟩:Addr).add j)=some u:=by
 intro j u hj
 match j,hj with
 |0,hj=>simp at hj;subst hj;simp [Addr.add]
structure Vi (lo vb:Nat) (nm:Nm) (mb:Nat) (iv:Value) (pts:List (Option Addr)) (w0 w:World):Prop where
 dB:Below lo w0 w
 low:lo<=vb
 blk:w.heap[vb]?=some (.cells #[.string ⟨nm.toArray⟩,.pointer (some ⟨mb,0,none⟩),iv,.slice none 0 0] 214 (0,0))
 imp:w.ownsRow lo 105 1 iv pts.length (lq pts)
 n1:iv.ownBlock≠some vb
theorem Vi.below{w':World}(h:Vi lo vb nm mb iv pts w0 w)(hb:Below w.heap.size w w')(hl:lo<=w.heap.size):Vi lo vb nm mb iv pts w0 w':=
 ⟨h.dB.trans (hb.mono hl),h.low,(hb.block _ (af h.blk)).trans h.blk,bE h.imp (λk _ l=>hb.block k l),h.n1⟩
theorem Vi.put{w2:World}(h:Vi lo vb nm mb iv pts w0 w)(hg:w.grownBy w2 iv.ownBlock)(v':Value)(x:Option Addr)(ho:w2.ownsRow lo 105 1 v' (pts.length+1) (lq pts++ [.pointer x]))(hw:∀k,v'.ownBlock=some k->iv.ownBlock=some k\/w.heap.size<=k):Vi lo vb nm mb v' (pts++ [x]) w0 (w2.setCell ⟨vb,2,none⟩ v'):=by
 have hlt:=af h.blk
 have hv:v'.ownBlock≠some vb:=λe=>(hw _ e).elim h.n1 (λh'=>by omega)
 refine⟨?_,h.low,?_,?_,hv⟩
 ·have tI:=h.low
  have hb:Below lo w w2:=⟨hg.os,hg.tape,hg.output,hg.size,λk hk=>hg.block k (by omega) (λe=>by have:=(aG h.imp k e.symm).1;omega)⟩;exact(h.dB.trans hb).setCell (p:=⟨vb,2,none⟩) h.low _
 ·rw [ax ((hg.block _ hlt (λe=>h.n1 e.symm)).trans h.blk)];rfl
 rw [List.length_append,List.length_singleton]
 have e:lq (pts++ [x])=lq pts++ [.pointer x]:=by simp [lq]
 rw [e];exact a8 ho hv _ _
theorem Oo{fb:Nat}{L:List Md}{tr:Nm->Option (Nat×Mod)}(h:dW lo w fb L tr)(hs:∀m∈L,m.ag.length<=8/\m.now.length<=600)(n:Nm)(hn:n.length<=8)(mb:Nat)(md:Mod)(ht:tr n=some (mb,md)):
  Calls prog 75 #[.map (some fb),.string ⟨n.toArray⟩] w λe w'=>∃iv,e=.returned (.pointer (some ⟨w.heap.size,0,none⟩))/\Below w.heap.size w w'/\Vw w.heap.size ⟨w.heap.size,n,mb,iv,md.aq.map λi=>gy (tr i.ag)⟩ [] (.slice none 0 0) w':=by
 have gO:n.length<=maxLen:=by unfold maxLen;omega
 have hlk:=h.ar n gO;rw [ht]at hlk;have VM:=h.may hs n;rw [ht]at VM;obtain⟨hM,_,_⟩:=VM _ rfl;have bp:=rq hs (n:=n) (md:=md) (by rw [<-h.is,ht];rfl);obtain⟨io,ic,a0,himp⟩:=hM.nN;have Aj:=hM.lt;have HI:=aa himp;have HA0:=aa a0
 have Dz:md.aq.length<=200:=by have:=bp.il;omega
 have oM:=aa bp.im;have HF:=aa h;have Vx:=Jr;obtain⟨i0,hi,hz0,hz1,hz2⟩:=info_parts KX
 have HVi:=aa (show Vi w.heap.size w.heap.size n mb (.slice none 0 0) [] w (w.alloc (.cells #[.string ⟨n.toArray⟩,.pointer (some ⟨mb,0,none⟩),.slice none 0 0,.slice none 0 0] 214))from
  ⟨(Below.refl _ _).alloc (Nat.le_refl _) _,Nat.le_refl _,aF _ _,World.ownsRow_nil _ _ _ _,by simp [Value.ownBlock]⟩)
 unfold gy at hlk;simp only [Option.map_some]at hlk;clear h VM hM himp bp
 go_enter func75,ntmps75
 go_wp2
 go_loopg [23] md.aq.length (λg i wr=>∃(j:Nat) (iv:Value),g+j=md.aq.length/\i=.int .i64 j/\Hy (Vi w.heap.size w.heap.size n mb iv ((md.aq.take j).map λi=>gy (tr i.ag)) w wr))
 case atStart=>exact⟨0,.slice none 0 0,by omega,rfl,by show Vi _ _ _ _ _ _ _ _;simpa using HVi.o⟩
 obtain⟨j,iv,hj,rfl,wF⟩:=hrel;have hsz:=wF.o.dB.size;have b0:=ae wF.o.blk 0;have b1:=ae wF.o.blk 1;have b2:=ae wF.o.blk 2;have bf:=aj wF.o.blk;have bl:=af wF.o.blk;simp at b0 b1 b2
 by_cases hlt:j<md.aq.length
 ·have eu:(j:Int)<(md.aq.length:Int):=by omega
  obtain⟨ib,rfl,hib,Yb,hcell⟩:=HI.o (by omega);obtain⟨e0,e1⟩:=hcell j hlt;have f0:=(aC wF.o.dB hib (j*2)).trans e0;have f1:=(aC wF.o.dB hib (j*2+1)).trans e1
  have adj:ib<wr.heap.size:=by omega
  obtain⟨qo,qc,xH⟩:=ak wF.o.imp
  have hpl:((md.aq.take j).map λi=>gy (tr i.ag)).length=j:=by rw [List.length_map,List.length_take];omega
  rw [hpl]at xH;have VN:=aa wF.o.imp;rw [hpl]at VN;subst xH;have ou:=aa (show(md.aq.take (j+1)).map (λi=>gy (tr i.ag))=(md.aq.take j).map (λi=>gy (tr i.ag))++ [gy (tr md.aq[j].ag)] by rw [List.take_succ_eq_append_getElem hlt,List.map_append];rfl)
  have Q7:md.aq[j].ag.length<=maxLen:=by have:=oM.o _ (List.getElem_mem hlt);unfold maxLen;omega
  have pq:=aa hpl
  have q1:j+1<=maxLen:=by unfold maxLen;omega
  have q2:(j+1)*8<=140737488355328:=by omega
  generalize md.aq[j]=im at*;obtain⟨X,hX⟩:∃X,wr.alloc (.cells #[.string ⟨im.ag.toArray⟩,.int .i64 im.ai] 220)=X:=⟨_,rfl⟩
  have qg:Below wr.heap.size wr X:=by rw [<-hX];exact(Below.refl _ _).alloc (Nat.le_refl _) _
  have RN:=((HF.o.below wF.o.dB).below qg.drew).ar im.ag Q7;have HVx:=aa (wF.o.below qg hsz)
  have x0:X.cell? ⟨wr.heap.size,0,none⟩=some (.string ⟨im.ag.toArray⟩):=by rw [<-hX];simp
  have xl:wr.heap.size<X.heap.size:=by rw [<-hX];simp
  have y2:=(aC qg bl 2).trans b2
  have yf:∀o,X.frozen? ⟨w.heap.size,o,none⟩=false:=λo=>(World.frozen?_of_block (a:=⟨w.heap.size,o,none⟩) (qg.block _ bl)).trans (bf o)
  have yl:w.heap.size<X.heap.size:=by omega
  have HX:=aa hX;clear hcell hpl hX qg
  go_wp2_with fail
  rw [HX.o]
  go_region_law (refine cv rfl (.tmp 31) (.tmp 37) 212 rfl w.heap.size 105 i0 (.pointer none) 1 8 underlying212 hi hz0 hz1 hz2 rfl (by decide) (.slice qo j qc) j (lq ((md.aq.take j).map λi=>gy (tr i.ag))) ?_ ?_ ⟨X.heap.size,0,none⟩ 1 1 [.pointer (gy (tr im.ag))] ?_ rfl ?_ ?_ q1 q2 ?_ ?_;(simp [Act.eval,Act.put]);(exact(World.ownsRow.drew (World.ownsRow.alloc (by have:=HVx.o.imp;rw [pq.o]at this;exact this) _)));(simp [Act.eval,Act.put]);(exact(λj u hj=>zu X _ _ j u hj));(intro u hu;simp at hu;subst hu;rfl);(simp;omega);intro v' w4 hown aB aJ;obtain⟨vo,vc,rfl⟩:=ak hown;have HG:=aa (aA (dS aB));have ot:=aa hown;have Bh:=aa aJ;have fO:=(HG.o.block w.heap.size yl (λe=>wF.o.n1 e.symm)).trans HVx.o.blk;have k9:=ae fO 2;have kf:=aj fO;have kl:=af fO;simp at k9;clear hown aB aJ fO)
  all_goals
   (try go_wp2_with fail)
   have xJ:=aa (HVx.o.put HG.o _ (gy (tr im.ag)) (by rw [pq.o];exact ot.o) (λk e=>by have:=Bh.o k e;rcases this with q|q;exact Or.inl q;exact Or.inr (by simp at q;omega)))
   go_wp2
   go_roundg (gk-1)
   case measure=>omega
   case rel=>exact⟨j+1,_,by omega,by first|rfl|go_num,by show Vi _ _ _ _ _ _ _ _;rw [ou.o];exact xJ.o⟩
 have jU:j=md.aq.length:=by omega
 have eu:¬(j:Int)<(md.aq.length:Int):=by omega
 have Jq:=aa (show Vi w.heap.size w.heap.size n mb iv (md.aq.map λi=>gy (tr i.ag)) w wr by have:=wF.o;rw [List.take_of_length_le (by omega)]at this;exact this);go_wp2;go_ret;exact⟨rfl,Jq.o.dB,iv,⟨Nat.le_refl _,Jq.o.blk,Jq.o.imp,World.ownsRow_nil _ _ _ _,Jq.o.n1,by simp [Value.ownBlock],λk _=>by simp [Value.ownBlock]⟩⟩
end Go.Proofs.YtpmmjkiclngpmaaGreatDoor
namespace Go.Proofs.YtpmmjkiclngpmaaGreatDoor
open Tryz
open Go.RowKit Go.Maps
variable{w w':World}{tr:Nm->Option (Nat×Mod)}{ns:List Nm}{L:List Md}{fb:Nat}
theorem KY(w:World):(Instr.makeMap 99 none).run prog w=.ok (.map (some w.heap.size)) (w.alloc (.map #[] 0)):=by
 simp [Instr.makeMap,go_sem]
theorem below_grown(h:Below w.heap.size w w')(r:Option Nat):w.grownBy w' r:=⟨h.os,h.tape,h.output,h.size,λk hk _=>h.block k hk⟩
structure rr (w:World) (fb:Nat) (L:List Md) (ns:List Nm) (tr:Nm->Option (Nat×Mod)):Prop where
 map:cV prog w 9 fb ns (λn=> .agg #[.pointer (gy (tr n)),.int .i64 (gz L n)])
 is:∀n,(tr n).map Prod.snd=if n∈ns then aP L n else none
 at':∀n y,tr n=some y->fb+1<y.1/\kx (fb+2) w y.1 y.2
theorem rr.keep(h:rr w fb L ns tr)(hk:∀k,k<w.heap.size->(k=fb\/fb+2<=k)->w'.heap[k]?=w.heap[k]?):rr w' fb L ns tr where
 map:=h.map.keep (hk _ h.map.lt (Or.inl rfl))
 is:=h.is
 at' n y hy:=⟨(h.at' n y hy).1,(h.at' n y hy).2.keep λk gZ ho=>hk k gZ (Or.inr (by have:=(h.at' n y hy).1;omega))⟩
theorem keyOf_string_inv{key:Value}{kl:Lit}(h:keyOf prog 9 key=some kl):∃x:ByteArray,key=.string x/\kl=.string x.data.toList:=by
 have hk:=underlying9
 cases key<;>simp [keyOf,hk,mapKey]at h
 exact⟨_,rfl,h.2.symm⟩
theorem rr.put(h:rr w fb L ns tr)(n:Nm)(x:Option (Nat×Mod))(pl:Nat)(hx:x.map Prod.snd=aP L n)(hp:gz L n=pl)(hat:∀y,x=some y->fb+1<y.1/\kx (fb+2) w y.1 y.2)(hm:cV prog w' 9 fb (jk n ns) (uI (λn=> .agg #[.pointer (gy (tr n)),.int .i64 (gz L n)]) n (.agg #[.pointer (gy x),.int .i64 pl])))(hg:w.grownBy w' (some fb)):
  rr w' fb L (jk n ns) (λz=>if z=n then x else tr z) where
 map:=hm.congr λz hz=>by
  unfold uI
  by_cases e:z=n
  ·rw [if_pos e,if_pos e,e,hp]
  ·rw [if_neg e,if_neg e]
 is z:=by
  by_cases e:z=n
  ·rw [if_pos e,if_pos (jS.2 (Or.inl e)),e];exact hx
  ·rw [if_neg e,h.is z]
   by_cases hz:z∈ns
   ·rw [if_pos hz,if_pos (jS.2 (Or.inr hz))]
   ·rw [if_neg hz,if_neg (λhq=>(jS.1 hq).elim e hz)]
 at' z y hy:=by
  have key:∀mb md,fb+1<mb->kx (fb+2) w mb md->kx (fb+2) w' mb md:=λmb md hne hm=>
   hm.keep λk hk ho=>hg.block k hk (λe=>by simp only [Option.some.injEq]at e;omega)
  by_cases e:z=n
  ·rw [if_pos e]at hy
   exact⟨(hat y hy).1,key _ _ (hat y hy).1 (hat y hy).2⟩
  rw [if_neg e]at hy;exact⟨(h.at' z y hy).1,key _ _ (h.at' z y hy).1 (h.at' z y hy).2⟩
theorem tZ{l r:List Nm}(hl:bY l)(h:∀x∈l,x∈r):l.length<=r.length:=by
 have hn:l.Nodup:=hl.ne;exact List.Nodup.length_le_of_subset hn h
theorem Hp{p:SP}{s:qb}(h:cx w p s):
  Calls prog 42 #[.pointer (some ⟨p.sb,0,none⟩)] w λe w'=>∃fb tr,e=.returned (.map (some fb))/\Below w.heap.size w w'/\dW w.heap.size w' fb s.L tr:=by
 obtain⟨c0,_,_,hl⟩:=h.field;have fO:=KY;have adk:=h.g_.lt
 have Q7:(aZ s.L).length<=8:=by simpa using h.ku.1
 have HS:=aa h;have HM:=aa (show World.ownsMap (w.alloc (.map #[] 0)) prog 9 vT p.mb (aZ s.L).length (gV (aZ s.L) (tR s.L))from h.g_.below ((Below.refl _ _).alloc (Nat.le_refl _) _));clear h
 go_enter func42,ntmps42
 go_wp2_with (at_range;refine wpList_range_own _ rfl _ 79 rfl 9 129 lL gI _ p.mb (aZ s.L).length _ rfl HM.o ?_)
 intro w1 hrg xG hs1
 try simp at hrg hs1
 have HRg:=aa hrg;have eC:=aa (show Below w.heap.size w w1 from⟨xG.os,xG.tape,xG.output,by omega,λk hk=>(xG.block k (by simp;omega) (by simp)).trans (Below.heap_alloc _ _ _ hk)⟩);have HFp:=aa (show rr w1 w.heap.size s.L [] (λ_=>none)from⟨((cV.new prog w 9 _).keep (xG.block _ (by simp) (by simp))),λn=>by simp,λn y hy=>by cases hy⟩)
 have hlen:s.L.length=(aZ s.L).length:=by simp
 rw [hlen]at HRg;clear hrg xG
 try go_frame
 go_wp2
 go_loopw [14] (λ_ wr=>∃(left:Lit->Bool) (cnt:Nat) (ns:List Nm) (tr:Nm->Option (Nat×Mod)),Hy (wr.ranges prog 9 vT p.mb (w.heap.size+1) (aZ s.L).length (gV (aZ s.L) (tR s.L)) left cnt)/\Hy (rr wr w.heap.size s.L ns tr)/\Hy (∀x,x∈ns↔(x∈aZ s.L/\left (.string x)=false))/\Hy (Below w.heap.size w wr)/\w.heap.size+1<wr.heap.size) (λ_ wr=>wr.rangeLeft p.mb (w.heap.size+1))
 case atStart=>
  refine⟨_,_,[],_,HRg.o,HFp.o,?_,eC.o,by omega⟩;show ∀x,_;intro x;rw [Bc];simp
 obtain⟨left,cnt,ns,tr,B4,lO,Z2,eM,K7⟩:=hrel
 go_wp2_with (at_next;refine wpList_next_ranges _ rfl _ rfl 9 lL vT Value.string id (λkey kl hkey=>by obtain⟨x,rfl,_⟩:=keyOf_string_inv hkey;exact⟨x,rfl⟩) (λv y _=>⟨v,rfl⟩) p.mb (w.heap.size+1) (aZ s.L).length _ left cnt rfl B4.o ?_ ?_)
 ·intro h0 hall
  have Z3:=aa (show ns=aZ s.L from bY.ext (lO.o.map.rising lL) HS.o.rising λx=>by rw [Z2.o x,hall];simp)
  have NZ:=aa (show dW w.heap.size wr w.heap.size s.L tr from by
   have hf:=lO.o;rw [Z3.o]at hf
   exact⟨Nat.le_refl _,hf.map,λn=>by
    rw [hf.is n]
    by_cases hn:n∈aZ s.L
    ·rw [if_pos hn]
    ·rw [if_neg hn,(tY hn).1],λn y hy=>⟨by have:=(hf.at' n y hy).1;omega,(hf.at' n y hy).2.low (by omega)⟩⟩)
  clear h0 hall;go_wp2;go_ret;exact⟨w.heap.size,tr,rfl,eM.o,NZ.o⟩
 intro x c kl y w2 cnt2 hkey hlk hv hat hrg2 hlt hg2 hs2 hen;obtain⟨x',Oq,rfl⟩:=keyOf_string_inv hkey
 cases Oq
 obtain⟨⟨n⟩⟩:=x;have hyc:=uH hv
 have kV:n∈aZ s.L:=by
  rcases Classical.em (n∈aZ s.L)with h|h
  ·exact h
  ·have h1:=hat (.held (.bool true))
   have h2:=hat (.held (.bool false));rw [uJ,if_neg h]at h1 h2;rw [<-h2]at h1;simp at h1
 have hc:c=.agg #[.string ⟨(lX s.L n).toArray⟩]:=by
  have h1:=hat (.held (.bool true));rw [uJ,if_pos kV,hyc]at h1;simp only [DataW.held.injEq]at h1;exact h1.symm
 subst hc;obtain⟨m,hm,hmn⟩:=List.mem_map.1 kV;have Ot:=mj HS.o.rising hm;rw [hmn]at Ot
 have Z4:lX s.L n=m.now:=by unfold lX;rw [Ot];rfl
 have hsm:=HS.o.small m hm;rw [Z4]at hen;have VO:=aa (show Below w.heap.size w w2 from⟨hg2.os.trans eM.o.os,hg2.tape.trans eM.o.tape,hg2.output.trans eM.o.output,by omega,λk hk=>(hg2.block k (by omega) (λe=>by simp at e;omega)).trans (eM.o.block k hk)⟩);have oK:=aa (lO.o.keep (w':=w2) λk hk ho=>hg2.block k hk (λe=>by simp at e;omega));have mY:=aa hrg2;have Gs:=aa (show cnt2<cnt from hlt);have HFm:=aa (show aP s.L n=ir m.now/\gz s.L n=if(dC m.now).2.aH then(dC m.now).2.ai else 0 by unfold aP gz;rw [Ot];exact⟨rfl,rfl⟩);have N5:=aa (λ(wq:World)=>KV ⟨m.now.toArray⟩ wq (by show m.now.toArray.size<=100000;simp;omega));have xf:=aa hkey;have oM:=aa kV;clear hat hv hyc hrg2 hlt hg2 hkey Z4 Ot;simp only [id]at hen
 go_wp2_with fail
 refine(N5.o _).mono ?_;rintro e w3 ⟨hb3,hres⟩
 have Sa:(w2.alloc (.cells #[.string ⟨m.now.toArray⟩] 129)).heap.size=w2.heap.size+1:=by simp
 have Ou:Below w2.heap.size w2 w3:=((Below.refl _ _).alloc (Nat.le_refl _) _).trans (hb3.mono (by rw [Sa];omega));have dy:=aa (VO.o.trans (Ou.mono (by omega)));have B5:=aa (oK.o.keep (w':=w3) λk hk _=>Ou.block k hk);have oB:=aa (mY.o.kept (below_grown Ou none) (by simp) (by simp));have hs3:=Ou.size;rw [Sa]at hres;clear hb3 Ou hen Sa
 rcases hres with⟨xD,rfl⟩|⟨xD,mb,rfl,Aj,Ol⟩
 ·have km:=aa xD
  clear xD
  have Z5:=aa (show ns.length<maxLen by
   have h1:∀z∈ns,z∈aZ s.L:=λz hz=>((Z2.o z).1 hz).1
   have h2:=tZ (lO.o.map.rising lL) h1
   unfold maxLen;omega)
  go_wp2_with (at_mapUpdate;refine pW _ rfl _ _ _ 99 rfl 9 107 lL yN w.heap.size ns _ rfl B5.o.map Z5.o (.string ⟨⟨n⟩⟩) (.agg #[.pointer none,.int .i64 (dC m.now).2.ai]) n rfl rfl xf.o ?_)
  intro w4 Z6 hg4;have lQ:=aa (B5.o.put n none (dC m.now).2.ai (by rw [HFm.o.1];unfold ir;rw [km.o];rfl) (by rw [HFm.o.2,km.o];rfl) (by intro y hy;cases hy) (by exact Z6) hg4);have AE:=aa (oB.o.kept hg4 (by simp;omega) (by simp));have iw:=aa (show Below w.heap.size w w4 from⟨hg4.os.trans dy.o.os,hg4.tape.trans dy.o.tape,hg4.output.trans dy.o.output,by have:=hg4.size;omega,λk hk=>(hg4.block k (by omega) (λe=>by simp at e;omega)).trans (dy.o.block k hk)⟩);have mC:=hg4.size;clear Z6 hg4;go_wp2
  go_roundw
  case rel=>
   refine⟨_,cnt2,jk n ns,_,AE.o,lQ.o,?_,iw.o,by omega⟩;show ∀z,_;intro z;rw [jS,Z2.o z,lr]
   by_cases Z7:z=n
   ·subst Z7
    simp [oM.o]
   ·simp [Z7]
  case measure=>
   rw [AE.o.left_eq,B4.o.left_eq];exact Gs.o
 have km:=aa xD;have Yc:=aa Ol;clear xD Ol
 have Z5:=aa (show ns.length<maxLen by
  have h1:∀z∈ns,z∈aZ s.L:=λz hz=>((Z2.o z).1 hz).1
  have h2:=tZ (lO.o.map.rising lL) h1
  unfold maxLen;omega)
 go_wp2_with (at_mapUpdate;refine pW _ rfl _ _ _ 99 rfl 9 107 lL yN w.heap.size ns _ rfl B5.o.map Z5.o (.string ⟨⟨n⟩⟩) (.agg #[.pointer (some ⟨mb,0,none⟩),.int .i64 0]) n rfl rfl xf.o ?_)
 intro w4 Z6 hg4;have lQ:=aa (B5.o.put n (some (mb,(dC m.now).1)) 0 (by rw [HFm.o.1];unfold ir;rw [km.o];rfl) (by rw [HFm.o.2,km.o];rfl) (by intro y hy;simp only [Option.some.injEq]at hy;subst hy;exact⟨by show w.heap.size+1<mb;omega,Yc.o.low (by omega)⟩) (by exact Z6) hg4);have AE:=aa (oB.o.kept hg4 (by simp;omega) (by simp));have iw:=aa (show Below w.heap.size w w4 from⟨hg4.os.trans dy.o.os,hg4.tape.trans dy.o.tape,hg4.output.trans dy.o.output,by have:=hg4.size;omega,λk hk=>(hg4.block k (by omega) (λe=>by simp at e;omega)).trans (dy.o.block k hk)⟩);have mC:=hg4.size;clear Z6 hg4;go_wp2
 go_roundw
 case rel=>
  refine⟨_,cnt2,jk n ns,_,AE.o,lQ.o,?_,iw.o,by omega⟩;show ∀z,_;intro z;rw [jS,Z2.o z,lr]
  by_cases Z7:z=n
  ·subst Z7
   simp [oM.o]
  ·simp [Z7]
 case measure=>
  rw [AE.o.left_eq,B4.o.left_eq];exact Gs.o
end Go.Proofs.YtpmmjkiclngpmaaGreatDoor
