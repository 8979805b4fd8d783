/- YtpmmjkiclngpmaaGreatDoorB20 -/
import Derived.Test.YtpmmjkiclngpmaaGreatDoorB03
set_option maxRecDepth 100000
set_option linter.unusedSimpArgs false
set_option linter.unusedVariables false
set_option maxHeartbeats 12800000
namespace Go.Proofs.YtpmmjkiclngpmaaGreatDoor
open Tryz
open Go.RowKit
variable{st:PS}{ws:List Wd}
structure sL where
 ag:List UInt8
 ai:Nat
 eF:Nat
def gJ(p:sL):List Value:= [.string ⟨p.ag.toArray⟩,.int .i64 p.ai,.int .i64 p.eF]
def yT(p:sL):Value:=.agg #[.string ⟨p.ag.toArray⟩,.int .i64 p.ai,.int .i64 p.eF]
def bU(ws:List Wd)(st:PS):sL×PS:=
 (⟨(st.cK ws).aX,(st.cK ws).ai,((st.bH ws).au ws [58]).eF ws⟩,((st.bH ws).au ws [58]).dQ ws)
theorem PS.uP(h:st.i<ws.length):st.i<=(st.dQ ws).i:=by
 unfold PS.dQ;split
 ·exact PS.cj h
 exact PS.bQ _ h
theorem Ok.YR{P:Pl}{w0 w:World}(h:Ok P ws w0 st w)(c0 c1 c2:Value):
  Ok P ws w0 st (((w.setCell ⟨w0.heap.size,0,none⟩ c0).setCell ⟨w0.heap.size,1,none⟩ c1).setCell ⟨w0.heap.size,2,none⟩ c2):=h.aba _ (Nat.le_refl _) c0 c1 c2
theorem Bk(P:Pl)(ws:List Wd)(st:PS)(w:World)(hp:jJ P ws st w):
  Calls prog 206 #[.pointer (some ⟨P.pb,0,none⟩)] w λe w'=>e=.returned (yT (bU ws st).1)/\Ok P ws w (bU ws st).2 w'/\st.i<=(bU ws st).2.i:=by
 have h1:=af hp.blk;have xG:=PS.oU (ws:=ws) hp.lt;have HQ:=aa (Ok.refl hp);clear hp
 go_enter func206,ntmps206
 go_wp2_with fail
 refine(uA P ws st _ (by exact(HQ.o.alloc _).cz)).mono ?_;rintro e w1 ⟨rfl,bp⟩;have eo:=aa ((HQ.o.alloc _).trans bp);have qM:=aa ((bp.but.block w.heap.size (by simp) (by omega)).trans (aF w _));have hs1:=bp.size;have oT:=bp.cz.lt;simp at hs1;clear bp;unfold ed
 go_wp2_with fail
 refine(cJ P ws (st.bH ws) _ (by exact(eo.o.alloc _).cz) [58]).mono ?_;rintro e w2 ⟨rfl,hb⟩;have et:=aa ((eo.o.alloc _).go hb);have iI:=aa ((hb.1.block w.heap.size (by simp;omega) (by omega)).trans (aI qM.o _));have G9:=aa ((hb.1.block w1.heap.size (by simp) (by omega)).trans (aF w1 _));have hs2:=hb.1.size;have hl2:=hb.2.lt;simp at hs2;have hg2:=PS.bQ (ws:=ws) [58] oT;have hg3:=PS.uP (ws:=ws) hl2;clear hb;have l1:=ae G9.o 1;have l2:=ae G9.o 2;have ls:=af G9.o;simp at l1 l2;have zs:=af iI.o
 go_wp2_with fail
 go_region_with (go_at_call 207;refine(uB P ws ((st.bH ws).au ws [58]) _ (by first|exact et.o.drew.cz|exact et.o.cz)).mono ?_;rintro e w3 ⟨rfl,bp⟩;have A0:=aa ((bp.but.block w1.heap.size ls (by omega)).trans G9.o);have rS:=aa ((bp.but.block w.heap.size zs (by omega)).trans iI.o);have m1:=ae A0.o 1;have m2:=ae A0.o 2;have ms:=af A0.o;have y0:=ae rS.o 0;have y1:=ae rS.o 1;have y2:=ae rS.o 2;have yf:=aj rS.o;have ys:=af rS.o;simp at m1 m2 y0 y1 y2;have Mt:=aa bp;clear bp)
 all_goals
  go_wp2;exact bodyPost_ret (v:=yT (bU ws st).1) (by simp [results,results206,go_sem,y0,y1,y2,ys,yT,bU]) rfl ⟨rfl,(et.o.drew.trans Mt.o).YR _ _ _,Nat.le_trans xG (Nat.le_trans hg2 hg3)⟩
def eH(ws:List Wd):Nat->PS->List sL×PS
 |0,st=>([],st)
 |n+1,st=>if st.aN ws [[44]]then((bU ws (st.next ws)).1::(eH ws n (bU ws (st.next ws)).2).1,(eH ws n (bU ws (st.next ws)).2).2)else([],st)
def eI(ws:List Wd)(st:PS):List sL×PS:=
 let s1:=st.au ws [40]
 if s1.aN ws [[41]]then([],s1.next ws)
 else((bU ws s1).1::(eH ws ws.length (bU ws s1).2).1,(eH ws ws.length (bU ws s1).2).2.au ws [41])
theorem GW:(prog.info? 301).map (λi=>(i.zero,i.size,i.bytes))=some (some (.agg #[.string ⟨#[]⟩,.int .i64 0,.int .i64 0]),3,32):=by kernel_rfl
def YS(P:Pl)(ws:List Wd)(w:World)(st:PS)(r:List sL×PS)(e:Ending)(w':World):Prop:=
 ∃po pn pc,e=.returned (.slice po pn pc)/\Ok P ws w r.2 w'/\w'.ownsRow w.heap.size 301 3 (.slice po pn pc) r.1.length (r.1.flatMap gJ)/\st.i<=r.2.i
theorem NI(P:Pl)(ws:List Wd)(cT:∀s:PS,s.i+1=ws.length->(s.aU ws).aL=0)(st:PS)(w:World)(hp:jJ P ws st w):
  Calls prog 205 #[.pointer (some ⟨P.pb,0,none⟩),.func (.func 206) #[.pointer (some ⟨P.pb,0,none⟩)] #[]] w (YS P ws w st (eI ws st)):=by
 have h1:=af hp.blk;have hg0:=PS.bQ (ws:=ws) [40] hp.lt;have hsm:=hp.small;have HQ:=aa (Ok.refl hp);have hZ:=aa cT;clear hp cT
 rcases hc:(st.au ws [40]).aN ws [[41]]with _|_
 rotate_left
 ·have HF:=aa (show eI ws st=([],(st.au ws [40]).next ws) by simp [eI,hc])
  have HS:=aa (show(st.au ws [40]).a_ ws [41]=(st.au ws [40]).next ws by simp [PS.a_,hc])
  go_enter func205,ntmps205
  go_wp2_with fail
  refine(cJ P ws st _ (by exact HQ.o.cz) [40]).mono ?_;rintro e w1 ⟨rfl,hb⟩;have eo:=aa (HQ.o.go hb);have oT:=hb.2.lt;clear hb
  go_wp2_with fail
  refine(fP P ws (st.au ws [40]) _ (by exact eo.o.cz) [41]).mono ?_;rintro e w2 ⟨rfl,hb⟩;rw [HS.o]at hb;have et:=aa (eo.o.go hb);have hn:=PS.cj (ws:=ws) oT;clear hb;rw [hc];go_wp2;go_ret;rw [HF.o];exact⟨none,0,0,rfl,et.o,World.ownsRow_nil _ _ _ _,Nat.le_trans hg0 hn⟩
 have HF:=aa (show eI ws st=((bU ws (st.au ws [40])).1::(eH ws ws.length (bU ws (st.au ws [40])).2).1,(eH ws ws.length (bU ws (st.au ws [40])).2).2.au ws [41]) by simp [eI,hc]);have HS:=aa (show(st.au ws [40]).a_ ws [41]=st.au ws [40] by simp [PS.a_,hc]);obtain⟨i0,hi,hz0,hz1,hz2⟩:=info_parts GW
 go_enter func205,ntmps205
 go_wp2_with fail
 refine(cJ P ws st _ (by exact HQ.o.cz) [40]).mono ?_;rintro e w1 ⟨rfl,hb⟩;have eo:=aa (HQ.o.go hb);clear hb
 go_wp2_with fail
 refine(fP P ws (st.au ws [40]) _ (by exact eo.o.cz) [41]).mono ?_;rintro e w2 ⟨rfl,hb⟩;rw [HS.o]at hb;have et:=aa (eo.o.go hb);have hs2:=et.o.size;clear hb;rw [hc]
 go_wp2_with fail
 refine(Bk P ws (st.au ws [40]) _ (by exact et.o.cz)).mono ?_;rintro e w3 ⟨rfl,bp,dG⟩;have oJ:=aa (et.o.trans bp);have hs3:=bp.size;have iY:=bp.cz.lt;generalize hr:bU ws (st.au ws [40])=r at*;have HE:=aa hr;clear bp hr;unfold yT;go_wp2
 go_loopg [5] ws.length (λn v wr=>∃(tl:List sL) (s:PS) (g cap:Nat),v=.slice (some ⟨g,0,none⟩) (tl.length+1) cap/\Hy (eH ws ws.length r.2=(tl++(eH ws n s).1,(eH ws n s).2))/\s.rem ws<n/\tl.length+n<=ws.length/\Hy (Ok P ws w s wr)/\
   Hy (wr.ownsRow w.heap.size 301 3 (.slice (some ⟨g,0,none⟩) (tl.length+1) cap) (tl.length+1) ((r.1::tl).flatMap gJ))/\r.2.i<=s.i)
 case atStart=>
  refine⟨[],r.2,w3.heap.size,1,rfl,rfl,?_,by simp,oJ.o.alloc _,?_,Nat.le_refl _⟩
  ·simp only [PS.rem];omega
  ·exact⟨rfl,Or.inr ⟨w3.heap.size,1,_,rfl,by omega,aF _ _,Nat.le_refl _,by unfold maxLen;omega,rfl,rfl⟩⟩
 obtain⟨tl,s,g,cap,rfl,HC,jh,Ay,HO,Cv,Kh⟩:=hrel;have hlt:=HO.o.cz.lt;have eP:=nU Cv.o
 rcases hat:s.aN ws [[44]]with _|_
 ·have oK:=aa (show eH ws ws.length r.2=(tl,s) by
   rw [HC.o]
   cases gk with
   |zero=>omega
   |succ n=>simp [eH,hat])
  have kg:=aa (show s.a_ ws [44]=s by simp [PS.a_,hat])
  go_wp2_with fail
  refine(fP P ws s _ (by exact HO.o.cz) [44]).mono ?_;rintro e w4 ⟨rfl,hb⟩;rw [kg.o]at hb;have ot:=aa (HO.o.go hb);have mh:=aa (aM Cv.o (w':=w4) (λk e=>hb.1.block k (by simp [Value.ownBlock]at e;omega) (by simp [Value.ownBlock]at e;omega)));clear hb;rw [hat]
  go_wp2_with fail
  refine(cJ P ws s _ (by exact ot.o.cz) [41]).mono ?_;rintro e w5 ⟨rfl,hb⟩;have Ai:=aa (ot.o.go hb);have UQ:=nU mh.o;have sJ:=aa (aM mh.o (w':=w5) (λk e=>hb.1.block k (by simp [Value.ownBlock]at e;omega) (by simp [Value.ownBlock]at e;omega)));have rR:=PS.bQ (ws:=ws) [41] hlt;clear hb;go_wp2;go_ret;rw [HF.o,oK.o];exact⟨_,_,_,rfl,Ai.o,sJ.o,Nat.le_trans hg0 (Nat.le_trans dG (Nat.le_trans Kh rR))⟩
 have Cw:=PS.bX hZ.o hat hlt;have sX:=PS.dw Cw;have gC:=PS.cj hlt;have kg:=aa (show s.a_ ws [44]=s.next ws by simp [PS.a_,hat])
 go_wp2_with fail
 refine(fP P ws s _ (by exact HO.o.cz) [44]).mono ?_;rintro e w4 ⟨rfl,hb⟩;rw [kg.o]at hb;have ot:=aa (HO.o.go hb);have mh:=aa (aM Cv.o (w':=w4) (λk e=>hb.1.block k (by simp [Value.ownBlock]at e;omega) (by simp [Value.ownBlock]at e;omega)));have UQ:=nU mh.o;clear hb;rw [hat]
 go_wp2_with fail
 refine(Bk P ws (s.next ws) _ (by exact ot.o.cz)).mono ?_;rintro e w5 ⟨rfl,DO,MU⟩;have Ai:=aa (ot.o.trans DO);have sJ:=aa (aM mh.o (w':=w5) (λk e=>DO.but.block k (by simp [Value.ownBlock]at e;omega) (by simp [Value.ownBlock]at e;omega)));have Gk:=aa MU;have abe:=nU sJ.o;have hs5:=Ai.o.size;generalize Az:bU ws (s.next ws)=r5 at*;have Y9:=aa Az;clear DO MU Az;unfold yT
 go_wp2_with (at_builtin;refine ji _ rfl _ _ 227 rfl w.heap.size 301 i0 (.agg #[.string ⟨#[]⟩,.int .i64 0,.int .i64 0]) 3 32 underlying227 hi hz0 hz1 hz2 rfl (by decide) g (tl.length+1) cap _ rfl (sJ.o.alloc _) ⟨w5.heap.size,0,none⟩ 1 1 (gJ r5.1) rfl rfl ?c1 ?c2 ?c3 ?c4 ?c5 ?_)
 case c1=>
  intro j u hj
  match j,hj with
  |0,hj=>simp [gJ]at hj;subst hj;simp [Addr.add]
  |1,hj=>simp [gJ]at hj;subst hj;simp [Addr.add]
  |2,hj=>simp [gJ]at hj;subst hj;simp [Addr.add]
 case c2=>intro u hu;simp [gJ]at hu;rcases hu with rfl|rfl|rfl<;>rfl
 case c3=>unfold maxLen;omega
 case c4=>omega
 case c5=>simp;omega
 intro g' cap' w6 hown' aB aJ;have Cx:=aa ((Ai.o.alloc _).grown aB eP.1);have UT:=aa hown';clear aB hown' aJ;go_wp2
 go_roundg (gk-1)
 case measure=>omega
 case rel=>
  refine⟨tl++ [r5.1],r5.2,g',cap',by simp,?_,?_,?_,Cx.o,?_,?_⟩
  ·show eH ws ws.length r.2=_
   rw [HC.o]
   cases gk with
   |zero=>omega
   |succ n=>simp [eH,hat,Y9.o]
  ·have:=PS.cH (ws:=ws) Gk.o;omega
  ·simp;omega
  ·show w6.ownsRow _ _ _ _ _ _
   have:=UT.o;simpa using this
  ·exact Nat.le_trans Kh (Nat.le_trans gC Gk.o)
end Go.Proofs.YtpmmjkiclngpmaaGreatDoor
