/- YtpmmjkiclngpmaaGreatDoorB04 -/
import Derived.Test.YtpmmjkiclngpmaaGreatDoorB03
set_option maxRecDepth 100000
set_option linter.unusedSimpArgs false
set_option linter.unusedVariables false
set_option maxHeartbeats 12800000
namespace Go.Proofs.YtpmmjkiclngpmaaGreatDoor
open Tryz
open Go.RowKit
theorem DU(l:List UInt8)(c:UInt8):fL (l++ [c])=10*fL l+(c.toNat-48):=by simp [fL]
theorem wX(s:ByteArray)(k:Nat)(h:k<s.size):fL (s.data.toList.take (k+1))=10*fL (s.data.toList.take k)+(s[k].toNat-48):=by
 rw [List.take_succ_eq_append_getElem (by simpa using h),DU];rfl
theorem Kj(s:ByteArray)(hd:∀j,(h:j<s.size)->ba (s[j].toNat:Int)=true)(k:Nat)(h:k<=s.size):fL (s.data.toList.take k)<10^k:=by
 induction k with
 |zero=>simp [fL]
 |succ k ih=>
  have h1:=ih (by omega);have h2:=hd k (by omega);simp [ba]at h2;rw [wX s k (by omega),Nat.pow_succ];omega
theorem MY(w:World)(s:ByteArray):∃C W,(convert 9 115 (.string s)).run prog w=.ok (.slice (some ⟨w.heap.size,0,none⟩) s.size C) W/\Below w.heap.size w W/\w.heap.size<W.heap.size/\
  ∀j,(h:j<s.size)->W.cell? ⟨w.heap.size,j,none⟩=some (.int .u8 (s[j].toNat:Int)):=by
 refine⟨_,_,run_bytes_of_string (P:=prog) w 9 115 5 s underlying9 underlying115 underlying5,((Below.refl _ _).drew).alloc (Nat.le_refl _) _,by simp,?_⟩;intro j h;exact(ae (b:=w.heap.size) (aF w.drew _) j).trans (bytesRow_at s _ j h)
theorem Ra(s:ByteArray)(w:World)(h0:0<s.size)(h9:s.size<=9)(hd:∀j,(h:j<s.size)->ba (s[j].toNat:Int)=true):
  Calls prog 296 #[.string s] w λe w'=>e=.returned (.tuple #[.int .i64 (fL s.data.toList),.nilIface])/\Below w.heap.size w w':=by
 have HD:=aa hd;have hc:=hd 0 h0;simp [ba]at hc;clear hd
 have e1:((s[0].toNat:Int)==45)=false:=by simp;omega
 have e2:((s[0].toNat:Int)==43)=false:=by simp;omega
 obtain⟨C,W,hcv,jM,hsz,hcell⟩:=MY w s;have HB:=aa jM;have HC:=aa hcell;clear jM hcell
 go_enter func296,ntmps296
 go_wp2
 go_loop [6,8,49] (λn _ i=>∃k:Nat,k<=s.size/\i=.int .i64 k/\n=.int .i64 (fL (s.data.toList.take k))) (λ_ _ i=>s.size-(intOf i).toNat)
 case atStart=>exact⟨0,Nat.zero_le _,rfl,rfl⟩
 obtain⟨k,hk,rfl,rfl⟩:=hrel;have sG:=Kj s HD.o k hk;have hp:10^k<=10^9:=Nat.pow_le_pow_right (by omega) (by omega)
 have hb2:fL (s.data.toList.take k)<=1000000000:=by omega
 clear sG hp
 by_cases hlt:k<s.size
 ·have hx:=HC.o k hlt
  have hdk:=HD.o k hlt;simp [ba]at hdk;have HS:=aa (wX s k hlt);go_wp2
  go_round
  case rel=>exact⟨k+1,by omega,by go_num,by rw [HS.o];congr 1;omega⟩
  case measure=>simp [intOf];omega
 have HT:=aa (show s.data.toList.take k=s.data.toList by apply List.take_of_length_le;simp;omega);go_wp2
 go_ret2
 rw [HT.o];exact⟨rfl,HB.o⟩
theorem MZ(s:ByteArray)(w:World)(h0:0<s.size)(h9:s.size<=9)(hd:∀j,(h:j<s.size)->ba (s[j].toNat:Int)=true):
  Calls prog 294 #[.string s] w λe w'=>e=.returned (.tuple #[.int .i64 (fL s.data.toList),.nilIface])/\Below w.heap.size w w':=by
 have HD:=aa hd;clear hd
 go_enter func294,ntmps294
 go_wp2_with fail
 refine(Ra s w h0 h9 HD.o).mono ?_;rintro e w1 ⟨rfl,hb⟩;have HB:=aa hb;clear hb;go_wp2
 go_ret2
 exact⟨rfl,HB.o⟩
theorem Kl{t:List UInt8}(h:∀c∈t,ba (c.toNat:Int)=true):∀j,(hj:j<(ByteArray.mk t.toArray).size)->ba (((ByteArray.mk t.toArray)[j]'hj).toNat:Int)=true:=by
 intro j hj
 have xW:j<t.length:=by simpa using (show j<t.toArray.size from hj)
 exact h _ (List.getElem_mem xW)
theorem G8(P:Pl)(ws:List Wd)(st:PS)(w:World)(hp:jJ P ws st w)(h0:0<(st.aU ws).aX.length)(h9:(st.aU ws).aX.length<=9)(hd:∀c∈(st.aU ws).aX,ba (c.toNat:Int)=true):
  Calls prog 289 #[.pointer (some ⟨P.pb,0,none⟩)] w (lh P ws w st (nT ws st)):=by
 have h1:=af hp.blk;have HL:=aa hp.lt;have HQ:=aa (Ok.refl hp);have HD:=aa hd;clear hp hd
 go_enter func289,ntmps289
 go_wp2_with fail
 refine(dP P ws st _ (by exact(HQ.o.alloc _).cz)).mono ?_;rintro e w1 ⟨rfl,hb⟩;have eo:=aa ((HQ.o.alloc _).go hb);have qM:=aa (gN hb.1 h1);have hs1:=hb.1.size;simp at hs1;clear hb;unfold ed
 go_wp2_with fail
 refine(MZ ⟨(st.aU ws).aX.toArray⟩ _ (by show 0<(st.aU ws).aX.toArray.size;simpa using h0) (by show(st.aU ws).aX.toArray.size<=9;simpa using h9) (Kl HD.o)).mono ?_;rintro e w2 ⟨rfl,hb2⟩;have et:=aa ((eo.o.alloc _).below hb2);have iI:=aa ((hb2.block _ (by have:=af qM.o;simp;omega)).trans (aI qM.o _));have G9:=aa ((hb2.block w1.heap.size (by simp)).trans (aF w1 _));clear hb2;have z0:=ae iI.o 0;have z1:=ae iI.o 1;have z2:=ae iI.o 2;have z3:=ae iI.o 3;have z4:=ae iI.o 4;have zf:=aj iI.o;have zs:=af iI.o;simp at z0 z1 z2 z3 z4;have l2:=ae G9.o 2;have ls:=af G9.o;simp at l2;go_wp2;exact bodyPost_ret (v:=bw (nT ws st).1 (.slice none 0 0)) (by simp [results,results289,go_sem,z0,z1,z2,z3,z4,zs,bw,nT]) rfl ⟨_,rfl,et.o.gY _ (Nat.le_refl _) _ _ _ _ _,bg.nil _ _,PS.cj HL.o⟩
theorem Km(P:Pl)(ws:List Wd)(m:Nat)(R:PS->Ex×PS)(hR:Reads 208 ws P m R)(cT:∀s:PS,s.i+1=ws.length->(s.aU ws).aL=0)(st:PS)(w:World)(hp:jJ P ws st w)(hm:(st.next ws).rem ws<m):
  Calls prog 290 #[.pointer (some ⟨P.pb,0,none⟩)] w (lh P ws w st (jO ws R st)):=by
 have h1:=af hp.blk;have hn:=PS.cj (ws:=ws) hp.lt;have Q7:=PS.cB (ws:=ws) hp.lt;have HQ:=aa (Ok.refl hp);have HR:=aa hR;have hZ:=aa cT;clear hp hR cT
 rcases hat:(st.next ws).aN ws [[40]]with _|_
 all_goals
  go_enter func290,ntmps290
  go_wp2_with fail
  refine(dP P ws st _ (by exact(HQ.o.alloc _).cz)).mono ?_;rintro e w1 ⟨rfl,hb⟩;have eo:=aa ((HQ.o.alloc _).go hb);have qM:=aa (gN hb.1 h1);have hs1:=hb.1.size;simp at hs1;clear hb;unfold ed
  go_wp2_with fail
  refine(at_one P ws (st.next ws) _ (by exact((eo.o.alloc _).alloc _).cz) (w1.heap.size+1) [40] (by simp) (by simp)).mono ?_;rintro e w2 ⟨rfl,hb⟩;rw [hat];have et:=aa (((eo.o.alloc _).alloc _).below hb);have G9:=aa ((hb.block w1.heap.size (by simp;omega)).trans (aI (aF w1 _) _));have iI:=aa ((hb.block w.heap.size (by simp;omega)).trans (aI (aI qM.o _) _));have hs2:=hb.size;simp at hs2;clear hb;have l1:=ae G9.o 1;have l2:=ae G9.o 2;have ls:=af G9.o;simp at l1 l2;have z0:=ae iI.o 0;have z1:=ae iI.o 1;have z2:=ae iI.o 2;have z3:=ae iI.o 3;have z4:=ae iI.o 4;have zf:=aj iI.o;have zs:=af iI.o;simp at z0 z1 z2 z3 z4
 ·have HF:=aa (show jO ws R st=(⟨2,(st.aU ws).ai,(st.aU ws).aX,0,[]⟩,st.next ws) by simp [jO,hat])
  go_wp2;rw [HF.o];exact bodyPost_ret (v:=bw ⟨2,(st.aU ws).ai,(st.aU ws).aX,0,[]⟩ (.slice none 0 0)) (by simp [results,results290,go_sem,z0,z1,z2,z3,z4,zs,bw]) rfl ⟨_,rfl,et.o.gY _ (Nat.le_refl _) _ _ _ _ _,bg.nil _ _,hn⟩
 have HF:=aa (show jO ws R st=(⟨3,(st.aU ws).ai,(st.aU ws).aX,0,(dZ ws R (st.next ws)).1⟩,(dZ ws R (st.next ws)).2) by simp [jO,hat])
 have hx:(st.next ws).au ws [40]=(st.next ws).next ws:=by simp [PS.au,hat]
 have UZ:((st.next ws).au ws [40]).rem ws<m:=by
  rw [hx];have:=PS.cH (ws:=ws) (PS.cj (ws:=ws) Q7);omega
 clear hx
 go_wp2_with fail
 go_region_with (go_at_call 295;refine(MT P ws m R HR.o hZ.o (st.next ws) _ (by first|exact et.o.drew.cz|exact et.o.cz) UZ).mono ?_;rintro e w3 ⟨qo,qn,qc,rfl,bp,cO,dG⟩;have A0:=aa ((bp.but.block w1.heap.size ls (by omega)).trans G9.o);have rS:=aa ((bp.but.block w.heap.size zs (by omega)).trans iI.o);have m1:=ae A0.o 1;have m2:=ae A0.o 2;have ms:=af A0.o;have y0:=ae rS.o 0;have y1:=ae rS.o 1;have y2:=ae rS.o 2;have y3:=ae rS.o 3;have y4:=ae rS.o 4;have yf:=aj rS.o;have ys:=af rS.o;simp at m1 m2 y0 y1 y2 y3 y4;have Mt:=aa bp;have DL:=aa cO;have yv:=aa dG;clear bp cO dG)
 all_goals
  go_wp2;rw [HF.o];exact bodyPost_ret (v:=bw ⟨3,(st.aU ws).ai,(st.aU ws).aX,0,(dZ ws R (st.next ws)).1⟩ (.slice qo qn qc)) (by simp [results,results290,go_sem,y0,y1,y2,y3,y4,ys,bw]) rfl ⟨_,rfl,(et.o.drew.trans Mt.o).gY _ (Nat.le_refl _) _ _ _ _ _,(DL.o.gY _ _ _ _ _ _ (by show ¬(w2.heap.size<=w.heap.size);omega)).mono (λk h _=>Nat.le_trans (by show w.heap.size<=w2.heap.size;omega) h),Nat.le_trans hn yv.o⟩
theorem GA(P:Pl)(ws:List Wd)(m:Nat)(Re Rf:PS->Ex×PS)(hE:Reads 208 ws P m Re)(hFa:Reads 288 ws P m Rf)(cT:∀s:PS,s.i+1=ws.length->(s.aU ws).aL=0)(Rh:∀s:PS,(s.aU ws).aL=3->0<(s.aU ws).aX.length/\(s.aU ws).aX.length<=9/\∀c∈(s.aU ws).aX,ba (c.toNat:Int)=true):
  Reads 288 ws P (m+1) (bI ws Re Rf):=by
 intro st w hp hm;have h1:=af hp.blk;have hlt:=hp.lt;have HQ:=aa (Ok.refl hp);have HE:=aa hE;have M_:=aa hFa;have hZ:=aa cT;have HNu:=aa Rh;clear hp hE hFa cT Rh;have fw0:=Cp
 rcases k3:(((st.aU ws).aL:Int)==3)with _|_
 rotate_left
 ·have hk:(st.aU ws).aL=3:=by simp at k3;omega
  have HF:=aa (show bI ws Re Rf st=nT ws st by simp [bI,hk]);have HN:=aa (HNu.o st hk)
  go_enter func288,ntmps288
  go_wp2_with fail
  refine(dm P ws st _ (by exact(HQ.o.alloc _).cz)).mono ?_;rintro e w1 ⟨rfl,hb⟩;have eo:=aa ((HQ.o.alloc _).below hb);have qM:=aa ((hb.block w.heap.size (by simp)).trans (aF w _));have hs1:=hb.size;simp at hs1;clear hb;unfold ed
  go_wp2_with fail
  refine(G8 P ws st _ (by exact eo.o.cz) HN.o.1 HN.o.2.1 HN.o.2.2).mono ?_;rintro e wz ⟨qv,rfl,bp,cO,dG⟩;obtain⟨qo,qn,qc,rfl⟩:=cO.shape;have Cz:=aa (eo.o.trans bp);have gh:=aa ((bp.but.block _ (af qM.o) (by omega)).trans qM.o);have DV:=aa cO;have DW:=aa dG;clear bp cO dG;have z0:=ae gh.o 0;have z1:=ae gh.o 1;have z2:=ae gh.o 2;have z3:=ae gh.o 3;have z4:=ae gh.o 4;have zf:=aj gh.o;have zs:=af gh.o;simp at z0 z1 z2 z3 z4;unfold bw;generalize hr:nT ws st=r at*;have T5:=aa hr;clear hr;go_wp2;rw [HF.o];exact bodyPost_ret (v:=bw r.1 (.slice qo qn qc)) (by simp [results,results288,go_sem,z0,z1,z2,z3,z4,zs,bw]) rfl (lh.fin h1 Cz.o DV.o (by omega) DW.o)
 have hk3:(st.aU ws).aL≠3:=by simp at k3;omega
 rcases k2:(((st.aU ws).aL:Int)==2)with _|_
 rotate_left
 ·have hk:(st.aU ws).aL=2:=by simp at k2;omega
  have HF:=aa (show bI ws Re Rf st=jO ws Re st by simp [bI,hk]);have hi:=PS.fM hZ.o (by omega) hlt;have sX:=PS.dw hi
  go_enter func288,ntmps288
  go_wp2_with fail
  refine(dm P ws st _ (by exact(HQ.o.alloc _).cz)).mono ?_;rintro e w1 ⟨rfl,hb⟩;have eo:=aa ((HQ.o.alloc _).below hb);have qM:=aa ((hb.block w.heap.size (by simp)).trans (aF w _));have hs1:=hb.size;simp at hs1;clear hb;unfold ed
  go_wp2_with fail
  refine(Km P ws m Re HE.o hZ.o st _ (by exact eo.o.cz) (by omega)).mono ?_;rintro e wz ⟨qv,rfl,bp,cO,dG⟩;obtain⟨qo,qn,qc,rfl⟩:=cO.shape;have Cz:=aa (eo.o.trans bp);have gh:=aa ((bp.but.block _ (af qM.o) (by omega)).trans qM.o);have DV:=aa cO;have DW:=aa dG;clear bp cO dG;have z0:=ae gh.o 0;have z1:=ae gh.o 1;have z2:=ae gh.o 2;have z3:=ae gh.o 3;have z4:=ae gh.o 4;have zf:=aj gh.o;have zs:=af gh.o;simp at z0 z1 z2 z3 z4;unfold bw;generalize hr:jO ws Re st=r at*;have T5:=aa hr;clear hr;go_wp2;rw [HF.o];exact bodyPost_ret (v:=bw r.1 (.slice qo qn qc)) (by simp [results,results288,go_sem,z0,z1,z2,z3,z4,zs,bw]) rfl (lh.fin h1 Cz.o DV.o (by omega) DW.o)
 have hk2:(st.aU ws).aL≠2:=by simp at k2;omega
 rcases yz:st.aN ws [[116,114,117,101],[102,97,108,115,101]]with _|_
 rotate_left
 ·have HF:=aa (show bI ws Re Rf st=qK ws st by simp [bI,hk2,hk3,yz])
  go_enter func288,ntmps288
  go_wp2_with fail
  refine(dm P ws st _ (by exact(HQ.o.alloc _).cz)).mono ?_;rintro e w1 ⟨rfl,hb⟩;have eo:=aa ((HQ.o.alloc _).below hb);have qM:=aa ((hb.block w.heap.size (by simp)).trans (aF w _));have hs1:=hb.size;simp at hs1;clear hb;unfold ed
  go_wp2_with fail
  refine(lG P ws st _ (by exact(eo.o.alloc _).cz) w1.heap.size [116,114,117,101] [102,97,108,115,101] (by simp) (by simp) (by simp)).mono ?_;rintro e w2 ⟨rfl,hb⟩;have et:=aa ((eo.o.alloc _).below hb);have iI:=aa ((hb.block w.heap.size (by simp;omega)).trans (aI qM.o _));have hs2:=hb.size;simp at hs2;clear hb;rw [yz]
  go_wp2_with fail
  refine(Ke P ws st _ (by exact et.o.cz)).mono ?_;rintro e wz ⟨qv,rfl,bp,cO,dG⟩;obtain⟨qo,qn,qc,rfl⟩:=cO.shape;have Cz:=aa (et.o.trans bp);have gh:=aa ((bp.but.block _ (af iI.o) (by omega)).trans iI.o);have DV:=aa cO;have DW:=aa dG;clear bp cO dG;have z0:=ae gh.o 0;have z1:=ae gh.o 1;have z2:=ae gh.o 2;have z3:=ae gh.o 3;have z4:=ae gh.o 4;have zf:=aj gh.o;have zs:=af gh.o;simp at z0 z1 z2 z3 z4;unfold bw;generalize hr:qK ws st=r at*;have T5:=aa hr;clear hr;go_wp2;rw [HF.o];exact bodyPost_ret (v:=bw r.1 (.slice qo qn qc)) (by simp [results,results288,go_sem,z0,z1,z2,z3,z4,zs,bw]) rfl (lh.fin h1 Cz.o DV.o (by omega) DW.o)
 rcases GB:st.aN ws [[40]]with _|_
 rotate_left
 ·have HF:=aa (show bI ws Re Rf st=jP ws Re st by simp [bI,hk2,hk3,yz,GB])
  have hi:=PS.bX hZ.o GB hlt;have sX:=PS.dw hi
  go_enter func288,ntmps288
  go_wp2_with fail
  refine(dm P ws st _ (by exact(HQ.o.alloc _).cz)).mono ?_;rintro e w1 ⟨rfl,hb⟩;have eo:=aa ((HQ.o.alloc _).below hb);have qM:=aa ((hb.block w.heap.size (by simp)).trans (aF w _));have hs1:=hb.size;simp at hs1;clear hb;unfold ed
  go_wp2_with fail
  refine(lG P ws st _ (by exact(eo.o.alloc _).cz) w1.heap.size [116,114,117,101] [102,97,108,115,101] (by simp) (by simp) (by simp)).mono ?_;rintro e w2 ⟨rfl,hb⟩;have jF:=aa ((eo.o.alloc _).below hb);have qO:=aa ((hb.block w.heap.size (by simp;omega)).trans (aI qM.o _));have y8:=hb.size;simp at y8;clear hb;rw [yz]
  go_wp2_with fail
  refine(at_one P ws st _ (by exact(jF.o.alloc _).cz) w2.heap.size [40] (by simp) (by simp)).mono ?_;rintro e w3 ⟨rfl,hb⟩;have qz:=aa ((jF.o.alloc _).below hb);have y9:=aa ((hb.block w.heap.size (by have:=af qO.o;simp;omega)).trans (aI qO.o _));have GC:=hb.size;simp at GC;clear hb;rw [GB]
  go_wp2_with fail
  refine(DI P ws m Re HE.o st _ (by exact qz.o.cz) (by omega)).mono ?_;rintro e wz ⟨qv,rfl,bp,cO,dG⟩;obtain⟨qo,qn,qc,rfl⟩:=cO.shape;have Cz:=aa (qz.o.trans bp);have gh:=aa ((bp.but.block _ (af y9.o) (by omega)).trans y9.o);have DV:=aa cO;have DW:=aa dG;clear bp cO dG;have z0:=ae gh.o 0;have z1:=ae gh.o 1;have z2:=ae gh.o 2;have z3:=ae gh.o 3;have z4:=ae gh.o 4;have zf:=aj gh.o;have zs:=af gh.o;simp at z0 z1 z2 z3 z4;unfold bw;generalize hr:jP ws Re st=r at*;have T5:=aa hr;clear hr;go_wp2;rw [HF.o];exact bodyPost_ret (v:=bw r.1 (.slice qo qn qc)) (by simp [results,results288,go_sem,z0,z1,z2,z3,z4,zs,bw]) rfl (lh.fin h1 Cz.o DV.o (by omega) DW.o)
 rcases U_:st.aN ws [[45]]with _|_
 rotate_left
 ·have HF:=aa (show bI ws Re Rf st=mK ws Rf 13 st by simp [bI,hk2,hk3,yz,GB,U_])
  have hi:=PS.bX hZ.o U_ hlt;have sX:=PS.dw hi
  go_enter func288,ntmps288
  go_wp2_with fail
  refine(dm P ws st _ (by exact(HQ.o.alloc _).cz)).mono ?_;rintro e w1 ⟨rfl,hb⟩;have eo:=aa ((HQ.o.alloc _).below hb);have qM:=aa ((hb.block w.heap.size (by simp)).trans (aF w _));have hs1:=hb.size;simp at hs1;clear hb;unfold ed
  go_wp2_with fail
  refine(lG P ws st _ (by exact(eo.o.alloc _).cz) w1.heap.size [116,114,117,101] [102,97,108,115,101] (by simp) (by simp) (by simp)).mono ?_;rintro e w2 ⟨rfl,hb⟩;have jF:=aa ((eo.o.alloc _).below hb);have qO:=aa ((hb.block w.heap.size (by simp;omega)).trans (aI qM.o _));have y8:=hb.size;simp at y8;clear hb;rw [yz]
  go_wp2_with fail
  refine(at_one P ws st _ (by exact(jF.o.alloc _).cz) w2.heap.size [40] (by simp) (by simp)).mono ?_;rintro e w3 ⟨rfl,hb⟩;have qz:=aa ((jF.o.alloc _).below hb);have y9:=aa ((hb.block w.heap.size (by have:=af qO.o;simp;omega)).trans (aI qO.o _));have GC:=hb.size;simp at GC;clear hb;rw [GB]
  go_wp2_with fail
  refine(at_one P ws st _ (by exact(qz.o.alloc _).cz) w3.heap.size [45] (by simp) (by simp)).mono ?_;rintro e w4 ⟨rfl,hb⟩;have mh:=aa ((qz.o.alloc _).below hb);have DX:=aa ((hb.block w.heap.size (by have:=af y9.o;simp;omega)).trans (aI y9.o _));have Na:=hb.size;simp at Na;clear hb;rw [U_]
  go_wp2_with fail
  refine(DG P ws m Rf M_.o st _ (by exact mh.o.cz) (by omega) 13).mono ?_;rintro e wz ⟨qv,rfl,bp,cO,dG⟩;obtain⟨qo,qn,qc,rfl⟩:=cO.shape;have Cz:=aa (mh.o.trans bp);have gh:=aa ((bp.but.block _ (af DX.o) (by omega)).trans DX.o);have DV:=aa cO;have DW:=aa dG;clear bp cO dG;have z0:=ae gh.o 0;have z1:=ae gh.o 1;have z2:=ae gh.o 2;have z3:=ae gh.o 3;have z4:=ae gh.o 4;have zf:=aj gh.o;have zs:=af gh.o;simp at z0 z1 z2 z3 z4;unfold bw;generalize hr:mK ws Rf 13 st=r at*;have T5:=aa hr;clear hr;go_wp2;rw [HF.o];exact bodyPost_ret (v:=bw r.1 (.slice qo qn qc)) (by simp [results,results288,go_sem,z0,z1,z2,z3,z4,zs,bw]) rfl (lh.fin h1 Cz.o DV.o (by omega) DW.o)
 rcases YF:st.aN ws [[33]]with _|_
 rotate_left
 ·have HF:=aa (show bI ws Re Rf st=mK ws Rf 14 st by simp [bI,hk2,hk3,yz,GB,U_,YF])
  have hi:=PS.bX hZ.o YF hlt;have sX:=PS.dw hi
  go_enter func288,ntmps288
  go_wp2_with fail
  refine(dm P ws st _ (by exact(HQ.o.alloc _).cz)).mono ?_;rintro e w1 ⟨rfl,hb⟩;have eo:=aa ((HQ.o.alloc _).below hb);have qM:=aa ((hb.block w.heap.size (by simp)).trans (aF w _));have hs1:=hb.size;simp at hs1;clear hb;unfold ed
  go_wp2_with fail
  refine(lG P ws st _ (by exact(eo.o.alloc _).cz) w1.heap.size [116,114,117,101] [102,97,108,115,101] (by simp) (by simp) (by simp)).mono ?_;rintro e w2 ⟨rfl,hb⟩;have jF:=aa ((eo.o.alloc _).below hb);have qO:=aa ((hb.block w.heap.size (by simp;omega)).trans (aI qM.o _));have y8:=hb.size;simp at y8;clear hb;rw [yz]
  go_wp2_with fail
  refine(at_one P ws st _ (by exact(jF.o.alloc _).cz) w2.heap.size [40] (by simp) (by simp)).mono ?_;rintro e w3 ⟨rfl,hb⟩;have qz:=aa ((jF.o.alloc _).below hb);have y9:=aa ((hb.block w.heap.size (by have:=af qO.o;simp;omega)).trans (aI qO.o _));have GC:=hb.size;simp at GC;clear hb;rw [GB]
  go_wp2_with fail
  refine(at_one P ws st _ (by exact(qz.o.alloc _).cz) w3.heap.size [45] (by simp) (by simp)).mono ?_;rintro e w4 ⟨rfl,hb⟩;have mh:=aa ((qz.o.alloc _).below hb);have DX:=aa ((hb.block w.heap.size (by have:=af y9.o;simp;omega)).trans (aI y9.o _));have Na:=hb.size;simp at Na;clear hb;rw [U_]
  go_wp2_with fail
  refine(at_one P ws st _ (by exact(mh.o.alloc _).cz) w4.heap.size [33] (by simp) (by simp)).mono ?_;rintro e w5 ⟨rfl,hb⟩;have sJ:=aa ((mh.o.alloc _).below hb);have Nb:=aa ((hb.block w.heap.size (by have:=af DX.o;simp;omega)).trans (aI DX.o _));have Va:=hb.size;simp at Va;clear hb;rw [YF]
  go_wp2_with fail
  refine(DG P ws m Rf M_.o st _ (by exact sJ.o.cz) (by omega) 14).mono ?_;rintro e wz ⟨qv,rfl,bp,cO,dG⟩;obtain⟨qo,qn,qc,rfl⟩:=cO.shape;have Cz:=aa (sJ.o.trans bp);have gh:=aa ((bp.but.block _ (af Nb.o) (by omega)).trans Nb.o);have DV:=aa cO;have DW:=aa dG;clear bp cO dG;have z0:=ae gh.o 0;have z1:=ae gh.o 1;have z2:=ae gh.o 2;have z3:=ae gh.o 3;have z4:=ae gh.o 4;have zf:=aj gh.o;have zs:=af gh.o;simp at z0 z1 z2 z3 z4;unfold bw;generalize hr:mK ws Rf 14 st=r at*;have T5:=aa hr;clear hr;go_wp2;rw [HF.o];exact bodyPost_ret (v:=bw r.1 (.slice qo qn qc)) (by simp [results,results288,go_sem,z0,z1,z2,z3,z4,zs,bw]) rfl (lh.fin h1 Cz.o DV.o (by omega) DW.o)
 have HF:=aa (show bI ws Re Rf st=(tJ,st.fail ws) by simp [bI,hk2,hk3,yz,GB,U_,YF])
 go_enter func288,ntmps288
 go_wp2_with fail
 refine(dm P ws st _ (by exact(HQ.o.alloc _).cz)).mono ?_;rintro e w1 ⟨rfl,hb⟩;have eo:=aa ((HQ.o.alloc _).below hb);have qM:=aa ((hb.block w.heap.size (by simp)).trans (aF w _));have hs1:=hb.size;simp at hs1;clear hb;unfold ed
 go_wp2_with fail
 refine(lG P ws st _ (by exact(eo.o.alloc _).cz) w1.heap.size [116,114,117,101] [102,97,108,115,101] (by simp) (by simp) (by simp)).mono ?_;rintro e w2 ⟨rfl,hb⟩;have jF:=aa ((eo.o.alloc _).below hb);have qO:=aa ((hb.block w.heap.size (by simp;omega)).trans (aI qM.o _));have y8:=hb.size;simp at y8;clear hb;rw [yz]
 go_wp2_with fail
 refine(at_one P ws st _ (by exact(jF.o.alloc _).cz) w2.heap.size [40] (by simp) (by simp)).mono ?_;rintro e w3 ⟨rfl,hb⟩;have qz:=aa ((jF.o.alloc _).below hb);have y9:=aa ((hb.block w.heap.size (by have:=af qO.o;simp;omega)).trans (aI qO.o _));have GC:=hb.size;simp at GC;clear hb;rw [GB]
 go_wp2_with fail
 refine(at_one P ws st _ (by exact(qz.o.alloc _).cz) w3.heap.size [45] (by simp) (by simp)).mono ?_;rintro e w4 ⟨rfl,hb⟩;have mh:=aa ((qz.o.alloc _).below hb);have DX:=aa ((hb.block w.heap.size (by have:=af y9.o;simp;omega)).trans (aI y9.o _));have Na:=hb.size;simp at Na;clear hb;rw [U_]
 go_wp2_with fail
 refine(at_one P ws st _ (by exact(mh.o.alloc _).cz) w4.heap.size [33] (by simp) (by simp)).mono ?_;rintro e w5 ⟨rfl,hb⟩;have sJ:=aa ((mh.o.alloc _).below hb);have Nb:=aa ((hb.block w.heap.size (by have:=af DX.o;simp;omega)).trans (aI DX.o _));have Va:=hb.size;simp at Va;clear hb;rw [YF]
 go_wp2_with fail
 refine(uz P ws st _ (by exact sJ.o.cz)).mono ?_;rintro e w6 ⟨rfl,hb⟩;have Cz:=aa (sJ.o.go hb);have gh:=aa ((hb.1.block _ (af Nb.o) (by omega)).trans Nb.o);clear hb;have z0:=ae gh.o 0;have z1:=ae gh.o 1;have z2:=ae gh.o 2;have z3:=ae gh.o 3;have z4:=ae gh.o 4;have zf:=aj gh.o;have zs:=af gh.o;simp at z0 z1 z2 z3 z4;go_wp2;rw [HF.o];exact bodyPost_ret (v:=bw tJ (.slice none 0 0)) (by simp [results,results288,go_sem,z0,z1,z2,z3,z4,zs,bw,tJ]) rfl ⟨_,rfl,Cz.o.gY _ (Nat.le_refl _) _ _ _ _ _,bg.nil _ _,PS.rQ hlt⟩
theorem Nc(P:Pl)(ws:List Wd)(m:Nat)(Re Rc:PS->Ex×PS)(hE:Reads 208 ws P m Re)(hC:Reads 252 ws P (m+1) Rc)(cT:∀s:PS,s.i+1=ws.length->(s.aU ws).aL=0):
  Reads 208 ws P (m+1) (λst=>if st.aN ws [[105,102]]then dX ws Re st else if st.aN ws [[108,101,116]]then dD ws Re st else Rc st):=by
 intro st w hp hm;have h1:=af hp.blk;have hlt:=hp.lt;have HQ:=aa (Ok.refl hp);have HE:=aa hE;have HC:=aa hC;have hZ:=aa cT;clear hp hE hC cT
 rcases yz:st.aN ws [[105,102]]with _|_
 rotate_left
 ·have HF:=aa (show(if st.aN ws [[105,102]]then dX ws Re st else if st.aN ws [[108,101,116]]then dD ws Re st else Rc st)=dX ws Re st by simp [yz])
  show Calls _ _ _ _ (lh P ws w st (if st.aN ws [[105,102]]then dX ws Re st else if st.aN ws [[108,101,116]]then dD ws Re st else Rc st));rw [HF.o];clear HF;have HF:=aa (show dX ws Re st=dX ws Re st from rfl);have hi:=PS.bX hZ.o yz hlt;have sX:=PS.dw hi
  go_enter func208,ntmps208
  go_wp2_with fail
  refine(at_one P ws st _ (by exact((HQ.o.alloc _).alloc _).cz) (w.heap.size+1) [105,102] (by simp) (by simp)).mono ?_;rintro e w1 ⟨rfl,hb⟩;have DY:=aa (((HQ.o.alloc _).alloc _).below hb);have DZ:=aa ((hb.block w.heap.size (by simp;omega)).trans (aI (aF w _) _));have Nd:=hb.size;simp at Nd;clear hb;rw [yz]
  go_wp2_with fail
  refine(G7 P ws m Re HE.o st _ (by exact DY.o.cz) (by omega)).mono ?_;rintro e wz ⟨qv,rfl,bp,cO,dG⟩;obtain⟨qo,qn,qc,rfl⟩:=cO.shape;have Cz:=aa (DY.o.trans bp);have gh:=aa ((bp.but.block _ (af DZ.o) (by omega)).trans DZ.o);have DV:=aa cO;have DW:=aa dG;clear bp cO dG;have z0:=ae gh.o 0;have z1:=ae gh.o 1;have z2:=ae gh.o 2;have z3:=ae gh.o 3;have z4:=ae gh.o 4;have zf:=aj gh.o;have zs:=af gh.o;simp at z0 z1 z2 z3 z4;unfold bw;generalize hr:dX ws Re st=r at*;have T5:=aa hr;clear hr;go_wp2;exact bodyPost_ret (v:=bw r.1 (.slice qo qn qc)) (by simp [results,results208,go_sem,z0,z1,z2,z3,z4,zs,bw]) rfl (lh.fin h1 Cz.o DV.o (by omega) DW.o)
 rcases GB:st.aN ws [[108,101,116]]with _|_
 rotate_left
 ·have HF:=aa (show(if st.aN ws [[105,102]]then dX ws Re st else if st.aN ws [[108,101,116]]then dD ws Re st else Rc st)=dD ws Re st by simp [yz,GB])
  show Calls _ _ _ _ (lh P ws w st (if st.aN ws [[105,102]]then dX ws Re st else if st.aN ws [[108,101,116]]then dD ws Re st else Rc st));rw [HF.o];have hi:=PS.bX hZ.o GB hlt;have sX:=PS.dw hi
  go_enter func208,ntmps208
  go_wp2_with fail
  refine(at_one P ws st _ (by exact((HQ.o.alloc _).alloc _).cz) (w.heap.size+1) [105,102] (by simp) (by simp)).mono ?_;rintro e w1 ⟨rfl,hb⟩;have DY:=aa (((HQ.o.alloc _).alloc _).below hb);have DZ:=aa ((hb.block w.heap.size (by simp;omega)).trans (aI (aF w _) _));have Nd:=hb.size;simp at Nd;clear hb;rw [yz]
  go_wp2_with fail
  refine(at_one P ws st _ (by exact(DY.o.alloc _).cz) w1.heap.size [108,101,116] (by simp) (by simp)).mono ?_;rintro e w2 ⟨rfl,hb⟩;have jF:=aa ((DY.o.alloc _).below hb);have qO:=aa ((hb.block w.heap.size (by have:=af DZ.o;simp;omega)).trans (aI DZ.o _));have y8:=hb.size;simp at y8;clear hb;rw [GB]
  go_wp2_with fail
  refine(DS P ws m Re HE.o st _ (by exact jF.o.cz) (by omega)).mono ?_;rintro e wz ⟨qv,rfl,bp,cO,dG⟩;obtain⟨qo,qn,qc,rfl⟩:=cO.shape;have Cz:=aa (jF.o.trans bp);have gh:=aa ((bp.but.block _ (af qO.o) (by omega)).trans qO.o);have DV:=aa cO;have DW:=aa dG;clear bp cO dG;have z0:=ae gh.o 0;have z1:=ae gh.o 1;have z2:=ae gh.o 2;have z3:=ae gh.o 3;have z4:=ae gh.o 4;have zf:=aj gh.o;have zs:=af gh.o;simp at z0 z1 z2 z3 z4;unfold bw;generalize hr:dD ws Re st=r at*;have T5:=aa hr;clear hr;go_wp2;exact bodyPost_ret (v:=bw r.1 (.slice qo qn qc)) (by simp [results,results208,go_sem,z0,z1,z2,z3,z4,zs,bw]) rfl (lh.fin h1 Cz.o DV.o (by omega) DW.o)
 have HF:=aa (show(if st.aN ws [[105,102]]then dX ws Re st else if st.aN ws [[108,101,116]]then dD ws Re st else Rc st)=Rc st by simp [yz,GB]);show Calls _ _ _ _ (lh P ws w st (if st.aN ws [[105,102]]then dX ws Re st else if st.aN ws [[108,101,116]]then dD ws Re st else Rc st));rw [HF.o]
 go_enter func208,ntmps208
 go_wp2_with fail
 refine(at_one P ws st _ (by exact((HQ.o.alloc _).alloc _).cz) (w.heap.size+1) [105,102] (by simp) (by simp)).mono ?_;rintro e w1 ⟨rfl,hb⟩;have DY:=aa (((HQ.o.alloc _).alloc _).below hb);have DZ:=aa ((hb.block w.heap.size (by simp;omega)).trans (aI (aF w _) _));have Nd:=hb.size;simp at Nd;clear hb;rw [yz]
 go_wp2_with fail
 refine(at_one P ws st _ (by exact(DY.o.alloc _).cz) w1.heap.size [108,101,116] (by simp) (by simp)).mono ?_;rintro e w2 ⟨rfl,hb⟩;have jF:=aa ((DY.o.alloc _).below hb);have qO:=aa ((hb.block w.heap.size (by have:=af DZ.o;simp;omega)).trans (aI DZ.o _));have y8:=hb.size;simp at y8;clear hb;rw [GB]
 go_wp2_with fail
 refine(HC.o st _ (by exact jF.o.cz) hm).mono ?_;rintro e wz ⟨qv,rfl,bp,cO,dG⟩;obtain⟨qo,qn,qc,rfl⟩:=cO.shape;have Cz:=aa (jF.o.trans bp);have gh:=aa ((bp.but.block _ (af qO.o) (by omega)).trans qO.o);have DV:=aa cO;have DW:=aa dG;clear bp cO dG;have z0:=ae gh.o 0;have z1:=ae gh.o 1;have z2:=ae gh.o 2;have z3:=ae gh.o 3;have z4:=ae gh.o 4;have zf:=aj gh.o;have zs:=af gh.o;simp at z0 z1 z2 z3 z4;unfold bw;generalize hr:Rc st=r at*;have T5:=aa hr;clear hr;go_wp2;exact bodyPost_ret (v:=bw r.1 (.slice qo qn qc)) (by simp [results,results208,go_sem,z0,z1,z2,z3,z4,zs,bw]) rfl (lh.fin h1 Cz.o DV.o (by omega) DW.o)
theorem reads(P:Pl)(ws:List Wd)(cT:∀s:PS,s.i+1=ws.length->(s.aU ws).aL=0)(Rh:∀s:PS,(s.aU ws).aL=3->0<(s.aU ws).aX.length/\(s.aU ws).aX.length<=9/\∀c∈(s.aU ws).aX,ba (c.toNat:Int)=true)(m:Nat):
  Reads 208 ws P m (rd ws m).1/\Reads 288 ws P m (rd ws m).2:=by
 induction m with
 |zero=>exact⟨λst w _ h=>by omega,λst w _ h=>by omega⟩
 |succ m ih=>
  have hF:=GA P ws m _ _ ih.1 ih.2 cT Rh;have hT:=MQ P ws (m+1) _ hF cT;have hS:=Q_ P ws (m+1) _ hT cT;have hC:=DT P ws (m+1) _ hS cT;exact⟨Nc P ws m _ _ ih.1 hC cT,hF⟩
end Go.Proofs.YtpmmjkiclngpmaaGreatDoor
