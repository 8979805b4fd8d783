/- YtpmmjkiclngpmaaGreatDoorB24 -/
import Derived.Maps.Own
import Derived.Maps.OwnSet
import Derived.Maps.Views
import Derived.Test.YtpmmjkiclngpmaaGreatDoorB21
import Derived.Test.YtpmmjkiclngpmaaGreatDoorB23
set_option maxRecDepth 100000
set_option linter.unusedSimpArgs false
set_option linter.unusedVariables false
set_option maxHeartbeats 12800000
namespace Go.Proofs.YtpmmjkiclngpmaaGreatDoor
open Tryz
open Go.RowKit Go.Maps Go.WideMaps
variable{L:List (List UInt8)}{b B kb mb:Nat}{w w':World}
def yb(w:World)(b:Nat)(L:List (List UInt8)):Prop:=
 ∃(n:Nat) (D:DataW Unit),w.ownsMap prog 9 (plainElem prog 3) b n D/\n<=L.length/\∀ag,D.atKey (.string ag) (.lit (.int .i64 0))=.lit (.int .i64 (L.count ag))
theorem yb.new(w:World):yb (w.alloc (.map #[] 0)) w.heap.size []:=
 ⟨0,.map [],World.ownsMap_made _ _ _ _,Nat.le_refl _,λag=>rfl⟩
theorem yb.keep(h:yb w b L)(hk:w'.heap[b]?=w.heap[b]?):yb w' b L:=by
 obtain⟨n,D,⟨es,cl,hb,F,hs,hD⟩,hn,hat⟩:=h;exact⟨n,D,⟨es,cl,hk.trans hb,F,hs,hD⟩,hn,hat⟩
theorem yb.lt(h:yb w b L):b<w.heap.size:=by
 obtain⟨n,D,hm,_⟩:=h;exact hm.lt
theorem yb.isMap(h:yb w b L):∃es cl,w.heap[b]?=some (.map es cl):=by
 obtain⟨n,D,⟨es,cl,hb,_⟩,_⟩:=h;exact⟨_,_,hb⟩
theorem Oa(w:World):(zeroValue 3).run prog w=.ok (.int .i64 0) w:=zeroValue3 w
theorem yb.ar(h:yb w b L)(ag:List UInt8)(hs:ag.length<=100000):
  (Instr.lookup 297 (.map (some b)) (.string ⟨ag.toArray⟩) false).run prog w=.ok (.int .i64 (L.count ag)) w:=by
 obtain⟨n,D,hm,hn,hat⟩:=h;obtain⟨c,hrun,hc,hwc⟩:=hm.lookup_int (string_keyed underlying9) underlying297 underlying3 (Oa w) (keyOf_string_mk underlying9 (s:=⟨ag.toArray⟩) (by show ag.toArray.size<=maxLen;simp [maxLen];omega));rw [hrun];have h2:=hat ag;have:DataW.atKey D (.string ag) (.lit (.int .i64 0))=.lit (.int .i64 c):=hc;rw [h2]at this;simp only [DataW.lit.injEq,Lit.int.injEq,true_and]at this;rw [this]
theorem yb.put{n:Nat}{D:DataW Unit}{ag:List UInt8}(hm:w.ownsMap prog 9 (plainElem prog 3) b n D)(hat:∀ag,D.atKey (.string ag) (.lit (.int .i64 0))=.lit (.int .i64 (L.count ag)))(hn:n<=L.length)(v:Int)(hv:v=(L.count ag:Int)+1)(hown:w'.ownsMap prog 9 (plainElem prog 3) b (n+1) (D.put (.string ag) (.lit (.int .i64 v)))):yb w' b (ag::L):=by
 subst hv;refine⟨n+1,_,hown,by simp;omega,λq=> ?_⟩
 by_cases e:q=ag
 ·subst e
  rw [atKey_put_same hm.isMap (by trivial),List.count_cons_self];simp
 rw [atKey_put_other (by intro h;exact e (by injection h)),hat,List.count_cons_of_ne (λh=>e h.symm)]
theorem Kk.grown{vb:VK}{s:KS}{sv:Value}(h:Kk B kb vb s sv w)(hg:w.grownBy w' (some mb))(hne:mb≠kb)(TR:sv.ownBlock≠some mb)(hc:∃es cl,w.heap[mb]?=some (.map es cl)):Kk B kb vb s sv w':=
 ⟨h.low,(hg.block _ h.lt (λe=>hne (Option.some.inj e).symm)).trans h.blk,bE h.oV (λk e l=>hg.block k l (λe'=>TR (by rw [e,e']))),h.n1,by
  obtain⟨uv,hv,hd⟩:=h.vw;obtain⟨es,cl,hc⟩:=hc
  exact⟨uv,hv.keep (λk hk=>hg.block k (hv.has hk).2 (λe=>by obtain⟨a,b,c,q⟩:=hv.Ro hk;rw [Option.some.inj e,hc]at q;cases q)),hd⟩⟩
theorem xe(hg:w.grownBy w' (some mb))(h1:kb<w.heap.size)(h2:B<=kb)(h3:B<=mb):Below B w w':=
 ⟨hg.os,hg.tape,hg.output,hg.size,λk hk=>hg.block k (by omega) (λe=>by have:=Option.some.inj e;omega)⟩
theorem Bx(h:eh kb w w')(h1:kb<w.heap.size)(h2:B<=kb):Below B w w':=
 ⟨h.os,h.tape,h.output,h.size,λk hk=>h.block k (by omega) (by omega)⟩
def fw(L:List (List UInt8))(ag:List UInt8)(ai:Nat)(s:KS):KS:=if 0<L.count ag then s.tell 5 ai else s
theorem y_(B kb:Nat)(vb:VK)(mb:Nat)(L:List (List UInt8))(s:KS)(sv:Value)(w:World)(h:Kk B kb vb s sv w)(hc:yb w mb L)(hne:mb≠kb)(hmB:B<=mb)(TR:sv.ownBlock≠some mb)(ag:List UInt8)(hs:ag.length<=100000)(hL:L.length<=100000)(p:Nat):
  Calls prog 175 #[.pointer (some ⟨kb,0,none⟩),.map (some mb),.string ⟨ag.toArray⟩,.int .i64 p] w λe w'=>
   e=.returned (.tuple #[])/\Kk B kb vb (fw L ag p s) sv w'/\yb w' mb (ag::L)/\Below B w w'/\∀k,k<w.heap.size->k≠kb->k≠mb->w'.heap[k]?=w.heap[k]?:=by
 have hlk:=hc.ar ag hs;have Zk:=List.count_le_length (a:=ag) (l:=L);have HK:=aa h;have HC:=aa hc;clear h hc
 rcases Nat.eq_zero_or_pos (L.count ag)with h0|jR
 ·have HX:=aa (show fw L ag p s=s by simp [fw,h0])
  have ade:(Instr.lookup 297 (.map (some mb)) (.string ⟨ag.toArray⟩) false).run prog w=.ok (.int .i64 0) w:=by rw [hlk,h0];rfl
  have HV:=aa (show(1:Int)=(L.count ag:Int)+1 by rw [h0];rfl);clear hlk h0 Zk
  go_enter func175,ntmps175
  obtain⟨n,D,hm,hn,hat⟩:=HC.o;have ox:=aa hat;have RL:=aa hm;have fO:=hm.lt
  have hkey:∀s:List UInt8,s.length<=100000->keyOf prog 9 (.string ⟨s.toArray⟩)=some (.string s):=λs h=>keyOf_string_mk underlying9 (s:=⟨s.toArray⟩) (by show s.toArray.size<=maxLen;simp [maxLen];omega)
  have xf:=aa (hkey ag hs)
  have HEl:=aa (plainElem_int (H:=Unit) (P:=prog) (e:=3) underlying3 (a:=(1:Int)) (by first|decide|(simp [Lit.wf,IntKind.min,IntKind.max,IntKind.signed,IntKind.bits];omega)))
  clear hat hm hkey
  go_wp2_with (at_mapUpdate;refine wpList_mapUpdate_own _ rfl _ _ _ 297 rfl 9 3 (string_keyed underlying9) underlying297 (plainElem prog 3) mb n D rfl RL.o ?c1 (.string ⟨ag.toArray⟩) (.int .i64 (1)) (.string ag) rfl rfl xf.o (.lit (.int .i64 (1))) [] HEl.o ?_)
  case c1=>unfold maxLen;omega
  intro w3 hown aB;have jl:=aa (yb.put RL.o ox.o hn (1) (by first|exact HV.o|rfl) hown);have sI:=aa aB;clear hown aB;go_wp2
  go_end0
  exact⟨rfl,by rw [HX.o];exact Kk.grown HK.o sI.o hne TR HC.o.isMap,jl.o,xe sI.o HK.o.lt HK.o.low hmB,λk hk _ Oc=>sI.o.block k hk (λe=>Oc (Option.some.inj e))⟩
 have HX:=aa (show fw L ag p s=s.tell 5 p by simp [fw,jR])
 have xV:(0:Int)<(L.count ag:Int):=by omega
 go_enter func175,ntmps175
 go_wp2_with fail
 refine(yL B kb vb s sv _ HK.o 5 p).mono ?_;rintro e w2 ⟨rfl,hb2,hk2⟩;have cU:=aa hb2;have uQ:=aa hk2;have hc2:=HC.o.keep (hb2.block mb HC.o.lt hne);have RN:=hc2.ar ag hs;have kW:=aa hc2;clear hb2 hk2 hc2 hlk;have HV:=aa (show(L.count ag:Int)+1=(L.count ag:Int)+1 from rfl);obtain⟨n,D,hm,hn,hat⟩:=kW.o;have ox:=aa hat;have RL:=aa hm;have fO:=hm.lt
 have hkey:∀s:List UInt8,s.length<=100000->keyOf prog 9 (.string ⟨s.toArray⟩)=some (.string s):=λs h=>keyOf_string_mk underlying9 (s:=⟨s.toArray⟩) (by show s.toArray.size<=maxLen;simp [maxLen];omega)
 have xf:=aa (hkey ag hs)
 have HEl:=aa (plainElem_int (H:=Unit) (P:=prog) (e:=3) underlying3 (a:=((L.count ag:Int)+1:Int)) (by first|decide|(simp [Lit.wf,IntKind.min,IntKind.max,IntKind.signed,IntKind.bits];omega)))
 clear hat hm hkey
 go_wp2_with (at_mapUpdate;refine wpList_mapUpdate_own _ rfl _ _ _ 297 rfl 9 3 (string_keyed underlying9) underlying297 (plainElem prog 3) mb n D rfl RL.o ?c1 (.string ⟨ag.toArray⟩) (.int .i64 ((L.count ag:Int)+1)) (.string ag) rfl rfl xf.o (.lit (.int .i64 ((L.count ag:Int)+1))) [] HEl.o ?_)
 case c1=>unfold maxLen;omega
 intro w3 hown aB;have jl:=aa (yb.put RL.o ox.o hn ((L.count ag:Int)+1) (by first|exact HV.o|rfl) hown);have sI:=aa aB;clear hown aB;go_wp2
 go_end0
 exact⟨rfl,by rw [HX.o];exact Kk.grown uQ.o sI.o hne TR kW.o.isMap,jl.o,(Bx cU.o HK.o.lt HK.o.low).trans (xe sI.o uQ.o.lt uQ.o.low hmB),λk hk xZ Oc=>(sI.o.block k (Nat.lt_of_lt_of_le hk cU.o.size) (λe=>Oc (Option.some.inj e))).trans (cU.o.block k hk xZ)⟩
end Go.Proofs.YtpmmjkiclngpmaaGreatDoor
namespace Go.Proofs.YtpmmjkiclngpmaaGreatDoor
open Tryz
open Go.RowKit
variable{pv:Value}{w:World}
def o7(w:World)(B:Nat)(pv:Value)(ps:List sL):Prop:=
 ∃po pc,pv=.slice po ps.length pc/\(0<ps.length->∃gb,po=some ⟨gb,0,none⟩/\gb<B/\ps.length<=pc/\∀j,(hj:j<ps.length)->w.cell? ⟨gb,j*3,none⟩=some (.string ⟨(ps[j].ag).toArray⟩)/\w.cell? ⟨gb,j*3+1,none⟩=some (.int .i64 ps[j].ai)/\w.cell? ⟨gb,j*3+2,none⟩=some (.int .i64 ps[j].eF))
def lx(m:Nat)(S:Nat->Prop)(B:Nat)(w:World)(g o:Nat)(f:iL):Prop:=
 ∃pv bv,w.cell? ⟨g,o,none⟩=some (.string ⟨f.ag.toArray⟩)/\w.cell? ⟨g,o+1,none⟩=some (.int .i64 f.ai)/\w.cell? ⟨g,o+2,none⟩=some (.bool f.gW)/\w.cell? ⟨g,o+3,none⟩=some pv/\w.cell? ⟨g,o+4,none⟩=some (.int .i64 f.result)/\
  w.cell? ⟨g,o+5,none⟩=some (.int .i64 f.br.aL)/\w.cell? ⟨g,o+6,none⟩=some (.int .i64 f.br.ai)/\w.cell? ⟨g,o+7,none⟩=some (.string ⟨f.br.ag.toArray⟩)/\w.cell? ⟨g,o+8,none⟩=some (.int .i64 f.br.value)/\w.cell? ⟨g,o+9,none⟩=some bv/\
  o7 w B pv f.ay/\eB m S w bv f.br.aw
structure kA (m:Nat) (S:Nat->Prop) (B:Nat) (w:World) (mb:Nat) (md:Mod):Prop where
 lt:mb<B
 nN:∃io ic,w.cell? ⟨mb,0,none⟩=some (.slice io md.aq.length ic)/\(0<md.aq.length->∃ib,io=some ⟨ib,0,none⟩/\ib<B/\md.aq.length<=ic/\∀j,(hj:j<md.aq.length)->w.cell? ⟨ib,j*2,none⟩=some (.string ⟨(md.aq[j].ag).toArray⟩)/\w.cell? ⟨ib,j*2+1,none⟩=some (.int .i64 md.aq[j].ai))
 aR:∃fo fc,w.cell? ⟨mb,1,none⟩=some (.slice fo md.aR.length fc)/\(0<md.aR.length->∃g,fo=some ⟨g,0,none⟩/\g<B/\md.aR.length<=fc/\∀j,(hj:j<md.aR.length)->lx m S B w g (j*10) md.aR[j])
def ik:List (List UInt8×Nat)->List (List UInt8)->KS->KS
 | [],_,s=>s
 |x::r,L,s=>ik r (x.1::L) (fw L x.1 x.2 s)
theorem E1(l:List (List UInt8×Nat))(j:Nat)(hj:j<l.length)(L:List (List UInt8))(s:KS):ik (l.drop j) L s=ik (l.drop (j+1)) (l[j].1::L) (fw L l[j].1 l[j].2 s):=by
 rw [List.drop_eq_getElem_cons hj];rfl
theorem xg(L:List (List UInt8))(n:List UInt8)(p:Nat)(s:KS):(fw L n p s).az=s.az:=by
 unfold fw;split
 ·exact jm _ _ _
 rfl
theorem o7.shape{B:Nat}{ps:List sL}(h:o7 w B pv ps):∃a n c,pv=.slice a n c:=by
 obtain⟨po,pc,h,_⟩:=h;exact⟨_,_,_,h⟩
theorem CM{m:Nat}{S:Nat->Prop}{es:List Ex}(h:eB m S w pv es):∃a n c,pv=.slice a n c:=by
 obtain⟨po,pc,h⟩:=h.none;exact⟨_,_,_,h⟩
theorem za(w:World):(Instr.makeMap 297 none).run prog w=.ok (.map (some w.heap.size)) (w.alloc (.map #[] 0)):=by
 simp [Instr.makeMap,go_sem]
theorem zb(m:Nat)(S:Nat->Prop)(B:Nat)(w0:World)(kb:Nat)(vb:VK)(md:Mod)(hM:kA m S B w0 vb.mb md)(hB:B<=w0.heap.size)(s:KS)(w1 w:World)(h:Knows B kb vb w1 s w)(hw:Below B w0 w1)(hn:∀f∈md.aR,f.ag.length<=100000)(hl:md.aR.length<=100000):
  Calls prog 114 #[.pointer (some ⟨kb,0,none⟩)] w λe' w'=>e'=.returned (.tuple #[])/\Knows B kb vb w1 (ik (md.aR.map λf=>(f.ag,f.ai)) [] s) w':=by
 obtain⟨fo,fc,a1,wk⟩:=hM.aR;have Aj:=hM.lt;have c2:=(h.cell hw Aj 1).trans a1;have z:=h.size
 have y2:vb.mb<w.heap.size:=by omega
 obtain⟨hbl,sv,hk⟩:=h;obtain⟨f0,f1,f2,f3⟩:=hk.field;obtain⟨c1,_,y1⟩:=hk.view;have h1:=hk.lt;have h2:=hk.low;have HK:=aa hk;have HB:=aa hbl;have HW:=aa hw;have HF:=aa wk;have HN:=aa hn;have HKB:=aa (aG hk.oV);have ze:=aa (show(md.aR.map λf=>(f.ag,f.ai)).length=md.aR.length by simp);clear hk hbl hw wk hM a1 hn;have fO:=za
 go_enter func114,ntmps114
 go_wp2
 have Vz:w.heap.size≠kb:=by omega
 have TR:sv.ownBlock≠some w.heap.size:=λe=>by have:=(HKB.o _ e).2;omega
 go_loopg [17] md.aR.length (λn i wr=>∃(j:Nat) (t:KS) (L:List (List UInt8)),n+j=md.aR.length/\i=.int .i64 j/\Hy (ik (md.aR.map λf=>(f.ag,f.ai)) [] s=ik ((md.aR.map λf=>(f.ag,f.ai)).drop j) L t)/\L.length=j/\Hy (Kk B kb vb t sv wr)/\Hy (yb wr w.heap.size L)/\Hy (Below B w wr)/\w.heap.size<wr.heap.size)
 case atStart=>exact⟨0,s,[],by omega,rfl,rfl,rfl,HK.o.alloc _,yb.new w,(Below.refl _ _).alloc z _,by simp⟩
 obtain⟨j,t,L,hj,rfl,HR,V4,lM,HC,eM,Cu⟩:=hrel
 by_cases hlt:j<md.aR.length
 ·obtain⟨g,rfl,mi,Zl,hat⟩:=HF.o (by omega)
  obtain⟨pv,bv,b0,b1,b2,b3,b4,b5,b6,b7,b8,b9,Bl,cO⟩:=hat j hlt;obtain⟨pa,pn,pc,rfl⟩:=Bl.shape;obtain⟨qa,qn,qc,rfl⟩:=CM cO;have qC:=(HW.o.trans HB.o).trans eM.o;have d0:=(aC qC mi _).trans b0;have d1:=(aC qC mi _).trans b1;have d2:=(aC qC mi _).trans b2;have d3:=(aC qC mi _).trans b3;have d4:=(aC qC mi _).trans b4;have d5:=(aC qC mi _).trans b5;have d6:=(aC qC mi _).trans b6;have d7:=(aC qC mi _).trans b7;have d8:=(aC qC mi _).trans b8;have d9:=(aC qC mi _).trans b9
  have KA:g<wr.heap.size:=by omega
  have HD:=aa (E1 (md.aR.map λf=>(f.ag,f.ai)) j (by rw [ze.o];exact hlt) L t);have Q7:=HN.o md.aR[j] (List.getElem_mem hlt);generalize hf:md.aR[j]=f at*;have TA:=aa hf;clear hf hat Bl cO b0 b1 b2 b3 b4 b5 b6 b7 b8 b9 qC c1 c2 f0 f1 f2 f3
  go_wp2_with fail
  refine(y_ B kb vb w.heap.size L t sv _ (by exact lM.o.alloc _) (by exact HC.o.keep (Below.heap_alloc _ _ _ Cu)) Vz z TR f.ag Q7 (by omega) f.ai).mono ?_;rintro e' w3 ⟨rfl,hk3,hc3,zg,hb3⟩;have hs3:=zg.size;have He:=aa (((Below.refl B wr).alloc (by omega) _).trans zg);have iy:=aa hk3;have jl:=aa hc3
  have Zm:wr.heap.size<w3.heap.size:=by simp at hs3;omega
  have dy:=aa hb3;clear hk3 hc3 hb3 hs3 zg d0 d1 d2 d3 d4 d5 d6 d7 d8 d9;go_wp2
  go_roundg (gk-1)
  case measure=>omega
  case rel=>
   refine⟨j+1,fw L f.ag f.ai t,f.ag::L,by omega,by first|rfl|go_num,?_,by simp [V4],iy.o,jl.o,?_,by omega⟩
   ·show ik _ _ _=_
    rw [HR.o,HD.o];simp [TA.o]
   ·exact eM.o.trans He.o
 have jU:j=md.aR.length:=by omega
 have HX:=aa (show ik (md.aR.map λf=>(f.ag,f.ai)) [] s=t by rw [HR.o,jU,List.drop_of_length_le (by rw [ze.o];exact Nat.le_refl _)];rfl)
 have E2:¬(j:Int)<(md.aR.length:Int):=by omega
 go_wp2
 go_end0
 exact⟨rfl,by rw [HX.o];exact⟨HB.o.trans eM.o,sv,lM.o⟩⟩
end Go.Proofs.YtpmmjkiclngpmaaGreatDoor
