/- YtpmmjkiclngpmaaGreatDoorB03 -/
import Derived.Test.YtpmmjkiclngpmaaGreatDoorB02
import Derived.Deep.RegionWith
import Derived.Deep.LoopGhost
set_option maxRecDepth 100000
set_option linter.unusedSimpArgs false
set_option linter.unusedVariables false
set_option maxHeartbeats 12800000
namespace Go.Proofs.YtpmmjkiclngpmaaGreatDoor
open Tryz
open Go.RowKit
variable{b n size base g cap:Nat}{w w':World}{st:PS}{ws:List Wd}{P:Pl}{xs:List Value}{v pa UL:Value}{es:List Ex}{S:Nat->Prop}{a a':Ex}
theorem DG(P:Pl)(ws:List Wd)(m:Nat)(R:PS->Ex×PS)(hR:Reads 288 ws P m R)(st:PS)(w:World)(hp:jJ P ws st w)(hm:(st.next ws).rem ws<m)(k:Nat):
  Calls prog 293 #[.pointer (some ⟨P.pb,0,none⟩),.int .i64 k] w (lh P ws w st (mK ws R k st)):=by
 have h1:=af hp.blk;have HL:=aa hp.lt;have HQ:=aa (Ok.refl hp);have HR:=aa hR;clear hp hR;have fw2:=uw
 go_enter func293,ntmps293
 go_wp2_with fail
 refine(dP P ws st _ (by refine Ok.cz (w0:=w) ?_;repeat (first|exact HQ.o|refine Ok.alloc ?_ _|refine Ok.drew ?_|refine Ok.set ?_ _ _ _ (by omega)))).mono ?_
 rintro e w1 ⟨rfl,hb⟩;have eo:=aa ((HQ.o.alloc _).go hb);have eC:=aa (hb.1);have hs1:=eo.o.size;clear hb;unfold ed
 go_wp2_with fail
 refine(HR.o (st.next ws) _ (by refine Ok.cz (w0:=w) ?_;repeat (first|exact eo.o|refine Ok.alloc ?_ _|refine Ok.drew ?_|refine Ok.set ?_ _ _ _ (by omega))) hm).mono ?_
 rintro e w2 ⟨pv,rfl,bp,cO,dG⟩;have et:=aa (eo.o.trans bp);have hs2:=et.o.size;have abd:=bp.size;have HZ:=aa (gN (eC.o.trans bp.but) h1);obtain⟨po,pn,pc,rfl⟩:=cO.shape;have sH:=aa cO;have HG:=aa dG;clear bp cO dG;have z0:=ae HZ.o 0;have z1:=ae HZ.o 1;have z2:=ae HZ.o 2;have z3:=ae HZ.o 3;have z4:=ae HZ.o 4;have zf:=aj HZ.o;have zs:=af HZ.o;simp at z0 z1 z2 z3 z4;unfold bw;generalize hr:R (st.next ws)=r at*;have HE:=aa hr;clear hr;go_wp2;refine bodyPost_ret (v:=bw (mK ws R k st).1 (.slice (some ⟨w2.heap.size,0,none⟩) 1 1)) (by simp [results,results293,go_sem,z0,z1,z2,z3,z4,zs,bw,mK]) rfl ⟨_,rfl,?_,?_,?_⟩
 ·show Ok P ws w (R (st.next ws)).2 _
  rw [HE.o];exact(et.o.gY _ (Nat.le_refl _) _ _ _ _ _).alloc _
 ·show bg _ _ _ [(R (st.next ws)).1]
  rw [HE.o];exact(bg.Y6 (S:=λk=>w1.heap.size<=k) (by omega) sH.o w.heap.size (by have:=eC.o.size;simp at this;omega) _ _ _ _ _).mono (λk h _=>by omega)
 show st.i<=(R (st.next ws)).2.i;rw [HE.o];exact Nat.le_trans (PS.cj HL.o) HG.o
theorem DI(P:Pl)(ws:List Wd)(m:Nat)(R:PS->Ex×PS)(hR:Reads 208 ws P m R)(st:PS)(w:World)(hp:jJ P ws st w)(hm:(st.next ws).rem ws<m):
  Calls prog 292 #[.pointer (some ⟨P.pb,0,none⟩)] w (lh P ws w st (jP ws R st)):=by
 have h1:=af hp.blk;have HL:=aa hp.lt;have HQ:=aa (Ok.refl hp);have HR:=aa hR;clear hp hR;have fw2:=uw
 go_enter func292,ntmps292
 go_wp2_with fail
 refine(dP P ws st _ (by refine Ok.cz (w0:=w) ?_;repeat (first|exact HQ.o|refine Ok.alloc ?_ _|refine Ok.drew ?_|refine Ok.set ?_ _ _ _ (by omega)))).mono ?_
 rintro e w1 ⟨rfl,hb⟩;have eo:=aa ((HQ.o.alloc _).go hb);have eC:=aa (hb.1);have hs1:=eo.o.size;have UM:=hb.1.size;simp at UM;clear hb;unfold ed
 go_wp2_with fail
 refine(HR.o (st.next ws) _ (by refine Ok.cz (w0:=w) ?_;repeat (first|exact eo.o|refine Ok.alloc ?_ _|refine Ok.drew ?_|refine Ok.set ?_ _ _ _ (by omega))) hm).mono ?_
 rintro e w2 ⟨pv,rfl,bp,cO,dG⟩;have et:=aa (eo.o.trans bp);have cU:=aa (eC.o.trans bp.but);have hs2:=et.o.size;have abd:=bp.size;obtain⟨po,pn,pc,rfl⟩:=cO.shape;have sH:=aa cO;have HG:=aa dG;clear bp cO dG;unfold bw;generalize hr:R (st.next ws)=r at*;have HE:=aa hr;clear hr
 go_wp2_with fail
 refine(cJ P ws r.2 _ (by refine Ok.cz (w0:=w) ?_;exact et.o.alloc _) [41]).mono ?_;rintro e w3 ⟨rfl,hb3⟩;have oJ:=aa ((et.o.alloc _).go hb3);have Du:=aa et.o.cz.lt;have HZ:=aa (gN ((cU.o.alloc _).trans hb3.1) h1);have xF:=aa ((hb3.1.block _ (by simp) (by omega)).trans (aF w2 _));have DJ:=aa ((sH.o.alloc _).but (S':=λk=>w1.heap.size<=k) hb3.1 (λk h _=>⟨h,by omega⟩));have hs3:=hb3.1.size;simp at hs3;clear hb3;have z0:=ae HZ.o 0;have z1:=ae HZ.o 1;have z2:=ae HZ.o 2;have z3:=ae HZ.o 3;have z4:=ae HZ.o 4;have zf:=aj HZ.o;have zs:=af HZ.o;simp at z0 z1 z2 z3 z4;have l0:=ae xF.o 0;have l1:=ae xF.o 1;have l2:=ae xF.o 2;have l3:=ae xF.o 3;have l4:=ae xF.o 4;have lf:=aj xF.o;have ls:=af xF.o;simp at l0 l1 l2 l3 l4;go_wp2;refine bodyPost_ret (v:=bw (jP ws R st).1 (.slice (some ⟨w3.heap.size,0,none⟩) 1 1)) (by simp [results,results292,go_sem,z0,z1,z2,z3,z4,zs,bw,jP]) rfl ⟨_,rfl,?_,?_,?_⟩
 ·show Ok P ws w ((R (st.next ws)).2.au ws [41]) _
  rw [HE.o];exact(oJ.o.gY _ (Nat.le_refl _) _ _ _ _ _).alloc _
 ·show bg _ _ _ [(R (st.next ws)).1]
  rw [HE.o];exact(bg.Y6 (S:=λk=>w1.heap.size<=k) (by omega) DJ.o w.heap.size (by omega) _ _ _ _ _).mono (λk h _=>by omega)
 show st.i<=((R (st.next ws)).2.au ws [41]).i;rw [HE.o];exact Nat.le_trans (Nat.le_trans (PS.cj HL.o) HG.o) (PS.bQ _ Du.o)
theorem Ke(P:Pl)(ws:List Wd)(st:PS)(w:World)(hp:jJ P ws st w):
  Calls prog 291 #[.pointer (some ⟨P.pb,0,none⟩)] w (lh P ws w st (qK ws st)):=by
 have h1:=af hp.blk;have HL:=aa hp.lt;have HQ:=aa (Ok.refl hp);clear hp
 rcases ht:((st.aU ws).aX== [116,114,117,101])with _|_
 all_goals
  have HT:=aa ht
  go_enter func291,ntmps291
  go_wp2_with fail
  refine(dP P ws st _ (by refine Ok.cz (w0:=w) ?_;repeat (first|exact HQ.o|refine Ok.alloc ?_ _|refine Ok.drew ?_|refine Ok.set ?_ _ _ _ (by omega)))).mono ?_
  rintro e w1 ⟨rfl,hb⟩;have eo:=aa ((HQ.o.alloc _).go hb);have HZ:=aa (gN hb.1 h1);have hs1:=eo.o.size;have UM:=hb.1.size;simp at UM;clear hb;unfold ed;have z0:=ae HZ.o 0;have z1:=ae HZ.o 1;have z2:=ae HZ.o 2;have z3:=ae HZ.o 3;have z4:=ae HZ.o 4;have zf:=aj HZ.o;have zs:=af HZ.o;simp at z0 z1 z2 z3 z4;go_wp2;refine bodyPost_ret (v:=bw (qK ws st).1 (.slice none 0 0)) (by simp [results,results291,go_sem,z0,z1,z2,z3,z4,zs,bw,qK,ht]) rfl ⟨_,rfl,?_,bg.nil _ _,PS.cj HL.o⟩;exact((eo.o.gY _ (Nat.le_refl _) _ _ _ _ _).alloc _).alloc _
theorem pO(t:List UInt8)(w:World):
    Calls prog 285 #[.string ⟨t.toArray⟩] w λe w'=>e=.returned (.int .i64 (bJ t))/\w'=w:=by
  rcases q0:(t== [60])with _|_<;>rcases q1:(t== [61,61])with _|_<;>rcases q2:(t== [43])with _|_<;>rcases q3:(t== [45])with _|_<;>rcases q4:(t== [42])with _|_<;>
  (have HK:=aa (show bJ t=_ by simp only [bJ,q0,q1,q2,q3,q4,if_true,if_false,Bool.false_eq_true];rfl)
   go_enter func285,ntmps285
   go_wp2;go_ret
   exact⟨bR (by rw [HK.o];rfl),rfl⟩)
theorem DK(P:Pl)(ws:List Wd)(m:Nat)(R:PS->Ex×PS)(hR:Reads 288 ws P m R)(st:PS)(w:World)(hp:jJ P ws st w)(hm:(st.next ws).rem ws<m)(l:Ex)(po:Option Addr)(pn pc:Nat)(S:Nat->Prop)(hl:bg S w (.slice po pn pc) l.aw)(hS:∀k,S k->k≠P.pb):
  Calls prog 278 #[.pointer (some ⟨P.pb,0,none⟩),bw l (.slice po pn pc),.func (.func 288) #[.pointer (some ⟨P.pb,0,none⟩)] #[]] w λe w'=>
   ∃pv,e=.returned (bw (fD ws R l st).1 pv)/\Ok P ws w (fD ws R l st).2 w'/\bg (λk=>S k/\k<w.heap.size\/w.heap.size+2<=k) w' pv (fD ws R l st).1.aw/\(st.next ws).i<=(fD ws R l st).2.i:=by
 have h1:=af hp.blk;have HQ:=aa (Ok.refl hp);have HR:=aa hR;have HL:=aa hl;have HS:=aa hS;clear hp hR hl hS;have fw1:=Cq;unfold bw
 go_enter func278,ntmps278
 go_wp2_with fail
 refine(dP P ws st _ (by exact((HQ.o.alloc _).alloc _).cz)).mono ?_;rintro e w1 ⟨rfl,hb⟩;have eo:=aa (((HQ.o.alloc _).alloc _).go hb);have lF:=aa ((hb.1.block w.heap.size (by simp;omega) (by omega)).trans (aI (aF w _) _));have HZ:=aa ((hb.1.block (w.heap.size+1) (by simp) (by omega)).trans (jg w _ _));have UN:=aa (((HL.o.bound.alloc _).alloc _).but (S':=λk=>S k/\k<w.heap.size\/w.heap.size+2<=k) hb.1 (λk h _=>⟨Or.inl h,HS.o k h.1⟩));have hs1:=hb.1.size;simp at hs1;clear hb;unfold ed
 go_wp2_with fail
 refine(pO _ _).mono ?_;rintro e w1' ⟨rfl,rfl⟩;have l0:=ae lF.o 0;have l1:=ae lF.o 1;have l2:=ae lF.o 2;have l3:=ae lF.o 3;have l4:=ae lF.o 4;have lf:=aj lF.o;have ls:=af lF.o;simp at l0 l1 l2 l3 l4;have z0:=ae HZ.o 0;have z1:=ae HZ.o 1;have z2:=ae HZ.o 2;have z3:=ae HZ.o 3;have z4:=ae HZ.o 4;have zf:=aj HZ.o;have zs:=af HZ.o;simp at z0 z1 z2 z3 z4
 go_wp2_with fail
 go_region_with (go_at_call 288;go_must (refine(HR.o (st.next ws) _ (by first|exact eo.o.cz|exact eo.o.drew.cz) hm).mono ?_;rintro e w2 ⟨qv,rfl,bp,cO,dG⟩;obtain⟨qo,qn,qc,rfl⟩:=cO.shape;have lj:=aa ((bp.but.block w.heap.size ls (by omega)).trans lF.o);have iI:=aa ((bp.but.block (w.heap.size+1) zs (by omega)).trans HZ.o);have m0:=ae lj.o 0;have m1:=ae lj.o 1;have m2:=ae lj.o 2;have m3:=ae lj.o 3;have m4:=ae lj.o 4;have y0:=ae iI.o 0;have y1:=ae iI.o 1;have y2:=ae iI.o 2;have y3:=ae iI.o 3;have y4:=ae iI.o 4;have yf:=aj iI.o;have ys:=af iI.o;have ms:=af lj.o;simp at m0 m1 m2 m3 m4 y0 y1 y2 y3 y4;have Mt:=aa bp;have DL:=aa cO;have yv:=aa dG;clear bp cO dG;unfold bw))
 all_goals
  go_wp2;refine bodyPost_ret (v:=bw (fD ws R l st).1 (.slice (some ⟨w2.heap.size,0,none⟩) 2 2)) (by simp [results,results278,go_sem,y0,y1,y2,y3,y4,ys,bw,fD,bin]) rfl ⟨_,rfl,?_,?_,?_⟩
  ·show Ok P ws w (R (st.next ws)).2 _
   exact((eo.o.drew.trans Mt.o).gY _ (by omega) _ _ _ _ _).alloc _
  ·show bg _ _ _ [l,(R (st.next ws)).1]
   exact bg.UK (S:=λk=>S k/\k<w.heap.size\/w.heap.size+2<=k) (Or.inr (by omega)) (UN.o.drew.but Mt.o.but (λk h _=>⟨h,by rcases h with h|h;exact HS.o k h.1;omega⟩)) (DL.o.mono (λk h _=>Or.inr (Nat.le_trans hs1 h))) (w.heap.size+1) (by omega) _ _ _ _ _
  ·exact yv.o
theorem Kf(P:Pl)(ws:List Wd)(m:Nat)(R:PS->Ex×PS)(hR:Reads 284 ws P m R)(st:PS)(w:World)(hp:jJ P ws st w)(hm:(st.next ws).rem ws<m)(l:Ex)(po:Option Addr)(pn pc:Nat)(S:Nat->Prop)(hl:bg S w (.slice po pn pc) l.aw)(hS:∀k,S k->k≠P.pb):
  Calls prog 278 #[.pointer (some ⟨P.pb,0,none⟩),bw l (.slice po pn pc),.func (.func 284) #[.pointer (some ⟨P.pb,0,none⟩)] #[]] w λe w'=>
   ∃pv,e=.returned (bw (fD ws R l st).1 pv)/\Ok P ws w (fD ws R l st).2 w'/\bg (λk=>S k/\k<w.heap.size\/w.heap.size+2<=k) w' pv (fD ws R l st).1.aw/\(st.next ws).i<=(fD ws R l st).2.i:=by
 have h1:=af hp.blk;have HQ:=aa (Ok.refl hp);have HR:=aa hR;have HL:=aa hl;have HS:=aa hS;clear hp hR hl hS;have fw1:=Cq;unfold bw
 go_enter func278,ntmps278
 go_wp2_with fail
 refine(dP P ws st _ (by exact((HQ.o.alloc _).alloc _).cz)).mono ?_;rintro e w1 ⟨rfl,hb⟩;have eo:=aa (((HQ.o.alloc _).alloc _).go hb);have lF:=aa ((hb.1.block w.heap.size (by simp;omega) (by omega)).trans (aI (aF w _) _));have HZ:=aa ((hb.1.block (w.heap.size+1) (by simp) (by omega)).trans (jg w _ _));have UN:=aa (((HL.o.bound.alloc _).alloc _).but (S':=λk=>S k/\k<w.heap.size\/w.heap.size+2<=k) hb.1 (λk h _=>⟨Or.inl h,HS.o k h.1⟩));have hs1:=hb.1.size;simp at hs1;clear hb;unfold ed
 go_wp2_with fail
 refine(pO _ _).mono ?_;rintro e w1' ⟨rfl,rfl⟩;have l0:=ae lF.o 0;have l1:=ae lF.o 1;have l2:=ae lF.o 2;have l3:=ae lF.o 3;have l4:=ae lF.o 4;have lf:=aj lF.o;have ls:=af lF.o;simp at l0 l1 l2 l3 l4;have z0:=ae HZ.o 0;have z1:=ae HZ.o 1;have z2:=ae HZ.o 2;have z3:=ae HZ.o 3;have z4:=ae HZ.o 4;have zf:=aj HZ.o;have zs:=af HZ.o;simp at z0 z1 z2 z3 z4
 go_wp2_with fail
 go_region_with (go_at_call 284;go_must (refine(HR.o (st.next ws) _ (by first|exact eo.o.cz|exact eo.o.drew.cz) hm).mono ?_;rintro e w2 ⟨qv,rfl,bp,cO,dG⟩;obtain⟨qo,qn,qc,rfl⟩:=cO.shape;have lj:=aa ((bp.but.block w.heap.size ls (by omega)).trans lF.o);have iI:=aa ((bp.but.block (w.heap.size+1) zs (by omega)).trans HZ.o);have m0:=ae lj.o 0;have m1:=ae lj.o 1;have m2:=ae lj.o 2;have m3:=ae lj.o 3;have m4:=ae lj.o 4;have y0:=ae iI.o 0;have y1:=ae iI.o 1;have y2:=ae iI.o 2;have y3:=ae iI.o 3;have y4:=ae iI.o 4;have yf:=aj iI.o;have ys:=af iI.o;have ms:=af lj.o;simp at m0 m1 m2 m3 m4 y0 y1 y2 y3 y4;have Mt:=aa bp;have DL:=aa cO;have yv:=aa dG;clear bp cO dG;unfold bw))
 all_goals
  go_wp2;refine bodyPost_ret (v:=bw (fD ws R l st).1 (.slice (some ⟨w2.heap.size,0,none⟩) 2 2)) (by simp [results,results278,go_sem,y0,y1,y2,y3,y4,ys,bw,fD,bin]) rfl ⟨_,rfl,?_,?_,?_⟩
  ·show Ok P ws w (R (st.next ws)).2 _
   exact((eo.o.drew.trans Mt.o).gY _ (by omega) _ _ _ _ _).alloc _
  ·show bg _ _ _ [l,(R (st.next ws)).1]
   exact bg.UK (S:=λk=>S k/\k<w.heap.size\/w.heap.size+2<=k) (Or.inr (by omega)) (UN.o.drew.but Mt.o.but (λk h _=>⟨h,by rcases h with h|h;exact HS.o k h.1;omega⟩)) (DL.o.mono (λk h _=>Or.inr (Nat.le_trans hs1 h))) (w.heap.size+1) (by omega) _ _ _ _ _
  ·exact yv.o
theorem MP(P:Pl)(ws:List Wd)(m:Nat)(R:PS->Ex×PS)(hR:Reads 277 ws P m R)(st:PS)(w:World)(hp:jJ P ws st w)(hm:(st.next ws).rem ws<m)(l:Ex)(po:Option Addr)(pn pc:Nat)(S:Nat->Prop)(hl:bg S w (.slice po pn pc) l.aw)(hS:∀k,S k->k≠P.pb):
  Calls prog 278 #[.pointer (some ⟨P.pb,0,none⟩),bw l (.slice po pn pc),.func (.func 277) #[.pointer (some ⟨P.pb,0,none⟩)] #[]] w λe w'=>
   ∃pv,e=.returned (bw (fD ws R l st).1 pv)/\Ok P ws w (fD ws R l st).2 w'/\bg (λk=>S k/\k<w.heap.size\/w.heap.size+2<=k) w' pv (fD ws R l st).1.aw/\(st.next ws).i<=(fD ws R l st).2.i:=by
 have h1:=af hp.blk;have HQ:=aa (Ok.refl hp);have HR:=aa hR;have HL:=aa hl;have HS:=aa hS;clear hp hR hl hS;have fw1:=Cq;unfold bw
 go_enter func278,ntmps278
 go_wp2_with fail
 refine(dP P ws st _ (by exact((HQ.o.alloc _).alloc _).cz)).mono ?_;rintro e w1 ⟨rfl,hb⟩;have eo:=aa (((HQ.o.alloc _).alloc _).go hb);have lF:=aa ((hb.1.block w.heap.size (by simp;omega) (by omega)).trans (aI (aF w _) _));have HZ:=aa ((hb.1.block (w.heap.size+1) (by simp) (by omega)).trans (jg w _ _));have UN:=aa (((HL.o.bound.alloc _).alloc _).but (S':=λk=>S k/\k<w.heap.size\/w.heap.size+2<=k) hb.1 (λk h _=>⟨Or.inl h,HS.o k h.1⟩));have hs1:=hb.1.size;simp at hs1;clear hb;unfold ed
 go_wp2_with fail
 refine(pO _ _).mono ?_;rintro e w1' ⟨rfl,rfl⟩;have l0:=ae lF.o 0;have l1:=ae lF.o 1;have l2:=ae lF.o 2;have l3:=ae lF.o 3;have l4:=ae lF.o 4;have lf:=aj lF.o;have ls:=af lF.o;simp at l0 l1 l2 l3 l4;have z0:=ae HZ.o 0;have z1:=ae HZ.o 1;have z2:=ae HZ.o 2;have z3:=ae HZ.o 3;have z4:=ae HZ.o 4;have zf:=aj HZ.o;have zs:=af HZ.o;simp at z0 z1 z2 z3 z4
 go_wp2_with fail
 go_region_with (go_at_call 277;go_must (refine(HR.o (st.next ws) _ (by first|exact eo.o.cz|exact eo.o.drew.cz) hm).mono ?_;rintro e w2 ⟨qv,rfl,bp,cO,dG⟩;obtain⟨qo,qn,qc,rfl⟩:=cO.shape;have lj:=aa ((bp.but.block w.heap.size ls (by omega)).trans lF.o);have iI:=aa ((bp.but.block (w.heap.size+1) zs (by omega)).trans HZ.o);have m0:=ae lj.o 0;have m1:=ae lj.o 1;have m2:=ae lj.o 2;have m3:=ae lj.o 3;have m4:=ae lj.o 4;have y0:=ae iI.o 0;have y1:=ae iI.o 1;have y2:=ae iI.o 2;have y3:=ae iI.o 3;have y4:=ae iI.o 4;have yf:=aj iI.o;have ys:=af iI.o;have ms:=af lj.o;simp at m0 m1 m2 m3 m4 y0 y1 y2 y3 y4;have Mt:=aa bp;have DL:=aa cO;have yv:=aa dG;clear bp cO dG;unfold bw))
 all_goals
  go_wp2;refine bodyPost_ret (v:=bw (fD ws R l st).1 (.slice (some ⟨w2.heap.size,0,none⟩) 2 2)) (by simp [results,results278,go_sem,y0,y1,y2,y3,y4,ys,bw,fD,bin]) rfl ⟨_,rfl,?_,?_,?_⟩
  ·show Ok P ws w (R (st.next ws)).2 _
   exact((eo.o.drew.trans Mt.o).gY _ (by omega) _ _ _ _ _).alloc _
  ·show bg _ _ _ [l,(R (st.next ws)).1]
   exact bg.UK (S:=λk=>S k/\k<w.heap.size\/w.heap.size+2<=k) (Or.inr (by omega)) (UN.o.drew.but Mt.o.but (λk h _=>⟨h,by rcases h with h|h;exact HS.o k h.1;omega⟩)) (DL.o.mono (λk h _=>Or.inr (Nat.le_trans hs1 h))) (w.heap.size+1) (by omega) _ _ _ _ _
  ·exact yv.o
theorem yw{a0 a1 a2 a3 a4:Value}{e:TypeId}{f:Nat×Nat}(h:w.heap[b]?=some (.cells #[a0,a1,a2,a3,a4] e f))(c0 c1 c2 c3 c4:Value):
  (((((w.setCell ⟨b,0,none⟩ c0).setCell ⟨b,1,none⟩ c1).setCell ⟨b,2,none⟩ c2).setCell ⟨b,3,none⟩ c3).setCell ⟨b,4,none⟩ c4).heap[b]?=some (.cells #[c0,c1,c2,c3,c4] e f):=by
 rw [ax (ax (ax (ax (ax h 0 c0) 1 c1) 2 c2) 3 c3) 4 c4]
 rfl
theorem oQ{k:Nat}{x:Obj}(hk:k≠b)(h:w.heap[k]?=some x)(c0 c1 c2 c3 c4:Value):
  (((((w.setCell ⟨b,0,none⟩ c0).setCell ⟨b,1,none⟩ c1).setCell ⟨b,2,none⟩ c2).setCell ⟨b,3,none⟩ c3).setCell ⟨b,4,none⟩ c4).heap[k]?=some x:=by
 rw [Below.heap_setCell _ _ _ _ hk,Below.heap_setCell _ _ _ _ hk,Below.heap_setCell _ _ _ _ hk,Below.heap_setCell _ _ _ _ hk,Below.heap_setCell _ _ _ _ hk,h]
theorem Ct(P:Pl)(ws:List Wd)(m:Nat)(R:PS->Ex×PS)(hR:Reads 288 ws P m R)(st:PS)(w:World)(hp:jJ P ws st w)(hm:st.rem ws<m)(cT:∀s:PS,s.i+1=ws.length->(s.aU ws).aL=0)(b:Nat)(t u:List UInt8)(hb0:w.cell? ⟨b,0,none⟩=some (.string ⟨t.toArray⟩))(hb1:w.cell? ⟨b,1,none⟩=some (.string ⟨u.toArray⟩))(oP:b<w.heap.size)(DM:b≠P.pb):
  Calls prog 283 #[.pointer (some ⟨P.pb,0,none⟩),.func (.func 288) #[.pointer (some ⟨P.pb,0,none⟩)] #[],.slice (some ⟨b,0,none⟩) 2 2] w (lh P ws w st (cL ws R [t,u] st)):=by
 have h1:=af hp.blk;have HQ:=aa (Ok.refl hp);have HR:=aa hR;have hZ:=aa cT;have DN:=aa hb0;have nJ:=aa hb1;clear hp hR cT hb0 hb1
 go_enter func283,ntmps283
 go_wp2_with fail
 refine(HR.o st _ (by exact(HQ.o.alloc _).cz) hm).mono ?_;rintro e w1 ⟨qv,rfl,bp,cO,dG⟩;obtain⟨qo,qn,qc,rfl⟩:=cO.shape;have eo:=aa ((HQ.o.alloc _).trans bp);have hs1:=bp.size;simp at hs1;have HZ:=aa ((bp.but.block w.heap.size (by simp) (by omega)).trans (aF w _));have DL:=aa cO;have yv:=aa dG;clear bp cO dG;unfold bw;go_wp2
 go_loopg [10] ws.length (λn _ wr=>∃(l:Ex) (s:PS) (lo:Option Addr) (ln lc:Nat),Hy (cL ws R [t,u] st=dh ws R [t,u] n l s)/\s.rem ws<n/\Hy (Ok P ws w s wr)/\
   Hy (wr.heap[w1.heap.size]?=some (.cells #[.int .i64 l.aL,.int .i64 l.ai,.string ⟨l.ag.toArray⟩,.int .i64 l.value,.slice lo ln lc] 231 (0,0)))/\
   Hy (wr.heap[w.heap.size]?=some (.cells #[.int .i64 0,.int .i64 0,.string ⟨#[]⟩,.int .i64 0,.slice none 0 0] 231 (0,0)))/\
   Hy (bg (λk=>w.heap.size+1<=k/\k≠w1.heap.size) wr (.slice lo ln lc) l.aw)/\st.i<=s.i)
 case atStart=>
  refine⟨(R st).1,(R st).2,qo,qn,qc,rfl,?_,eo.o.alloc _,aF _ _,aI HZ.o _,?_,yv.o⟩
  ·have:=eo.o.cz.lt;simp only [PS.rem];omega
  ·exact(DL.o.bound.alloc _).mono (λk h _=>⟨by have:=h.1;simp at this;omega,by have:=h.2;omega⟩)
 obtain⟨l,s,lo,ln,lc,HC,jh,HO,xF,pP,HP,dG⟩:=hrel;have hlt:=HO.o.cz.lt;have Cu:=HO.o.size;have Dv:=af xF.o
 rcases hat:s.aN ws [t,u]with _|_
 ·have HF:=aa (show cL ws R [t,u] st=(l,s) by
   rw [HC.o]
   cases gk with
   |zero=>omega
   |succ n=>simp [dh,hat])
  go_wp2_with fail
  refine(lG P ws s _ (by exact HO.o.cz) b t u (by exact(HO.o.but.cell oP DM 0).trans DN.o) (by exact(HO.o.but.cell oP DM 1).trans nJ.o) (by omega)).mono ?_;rintro e w2 ⟨rfl,hb⟩;rw [hat];have et:=aa (HO.o.below hb);have iJ:=aa ((hb.block _ Dv).trans xF.o);have oq:=aa ((hb.block _ (af pP.o)).trans pP.o);have sH:=aa (HP.o.keep (S':=λk=>w.heap.size+1<=k/\k≠w1.heap.size) (λk h1 h2=>⟨h1,hb.block k h2⟩));clear hb;have l0:=ae iJ.o 0;have l1:=ae iJ.o 1;have l2:=ae iJ.o 2;have l3:=ae iJ.o 3;have l4:=ae iJ.o 4;have lf:=aj iJ.o;have ls:=af iJ.o;simp at l0 l1 l2 l3 l4;have z0:=ae oq.o 0;have z1:=ae oq.o 1;have z2:=ae oq.o 2;have z3:=ae oq.o 3;have z4:=ae oq.o 4;have zf:=aj oq.o;have zs:=af oq.o;simp at z0 z1 z2 z3 z4;go_wp2;refine bodyPost_ret (v:=bw l (.slice lo ln lc)) (by simp [results,results283,go_sem,z0,z1,z2,z3,z4,zs,bw]) rfl ?_;refine⟨.slice lo ln lc,by rw [HF.o],?_,?_,?_⟩
  ·rw [HF.o];exact et.o.gY _ (Nat.le_refl _) _ _ _ _ _
  ·rw [HF.o];exact(sH.o.gY _ _ _ _ _ _ (by omega)).mono (λk h _=>by omega)
  ·rw [HF.o];exact dG
 have hi:=PS.bX hZ.o hat hlt;have sX:=PS.dw hi;have gC:=PS.cj hlt
 have Ax:(s.next ws).rem ws<m:=by
  have:=PS.cH (ws:=ws) (st:=st) (st':=s) dG;omega
 go_wp2_with fail
 refine(lG P ws s _ (by exact HO.o.cz) b t u (by exact(HO.o.but.cell oP DM 0).trans DN.o) (by exact(HO.o.but.cell oP DM 1).trans nJ.o) (by omega)).mono ?_;rintro e w2 ⟨rfl,hb⟩;rw [hat];have et:=aa (HO.o.below hb);have iJ:=aa ((hb.block _ Dv).trans xF.o);have oq:=aa ((hb.block _ (af pP.o)).trans pP.o);have sH:=aa (HP.o.keep (S':=λk=>w.heap.size+1<=k/\k≠w1.heap.size) (λk h1 h2=>⟨h1,hb.block k h2⟩));clear hb;have l0:=ae iJ.o 0;have l1:=ae iJ.o 1;have l2:=ae iJ.o 2;have l3:=ae iJ.o 3;have l4:=ae iJ.o 4;have lf:=aj iJ.o;have ls:=af iJ.o;simp at l0 l1 l2 l3 l4
 go_wp2_with fail
 refine(DK P ws m R HR.o s _ (by exact et.o.cz) Ax l lo ln lc (λk=>w.heap.size+1<=k/\k≠w1.heap.size) (by exact sH.o) (by intro k h;omega)).mono ?_;rintro e w3 ⟨rv,rfl,vO,uC,yx⟩;obtain⟨ro,rn,rc,rfl⟩:=uC.shape;have oJ:=aa (et.o.trans vO);have qL:=aa ((vO.but.block _ ls (by omega)).trans iJ.o);have UO:=aa ((vO.but.block _ (af oq.o) (by omega)).trans oq.o);have DJ:=aa (uC.mono (S':=λk=>w.heap.size+1<=k/\k≠w1.heap.size) (λk h _=>by rcases h with h|h;exact h.1;omega));have sI:=aa yx;clear vO uC yx l0 l1 l2 l3 l4 lf;have m0:=ae qL.o 0;have m1:=ae qL.o 1;have m2:=ae qL.o 2;have m3:=ae qL.o 3;have m4:=ae qL.o 4;have mf:=aj qL.o;have ms:=af qL.o;simp at m0 m1 m2 m3 m4;unfold bw;generalize hx:fD ws R l s=x at*;have HX:=aa hx;clear hx;go_wp2
 go_roundg (gk-1)
 case measure=>omega
 case rel=>
  refine⟨x.1,x.2,ro,rn,rc,?_,?_,?_,?_,?_,?_,?_⟩
  ·show cL ws R [t,u] st=_
   rw [HC.o]
   cases gk with
   |zero=>omega
   |succ n=>simp [dh,hat,HX.o]
  ·have:=PS.cH (ws:=ws) sI.o;omega
  ·exact oJ.o.gY _ (by omega) _ _ _ _ _
  ·exact yw qL.o _ _ _ _ _
  ·exact oQ (by omega) UO.o _ _ _ _ _
  ·exact DJ.o.gY _ _ _ _ _ _ (by omega)
  ·exact Nat.le_trans dG (Nat.le_trans gC sI.o)
theorem G6(P:Pl)(ws:List Wd)(m:Nat)(R:PS->Ex×PS)(hR:Reads 284 ws P m R)(st:PS)(w:World)(hp:jJ P ws st w)(hm:st.rem ws<m)(cT:∀s:PS,s.i+1=ws.length->(s.aU ws).aL=0)(b:Nat)(t u:List UInt8)(hb0:w.cell? ⟨b,0,none⟩=some (.string ⟨t.toArray⟩))(hb1:w.cell? ⟨b,1,none⟩=some (.string ⟨u.toArray⟩))(oP:b<w.heap.size)(DM:b≠P.pb):
  Calls prog 283 #[.pointer (some ⟨P.pb,0,none⟩),.func (.func 284) #[.pointer (some ⟨P.pb,0,none⟩)] #[],.slice (some ⟨b,0,none⟩) 2 2] w (lh P ws w st (cL ws R [t,u] st)):=by
 have h1:=af hp.blk;have HQ:=aa (Ok.refl hp);have HR:=aa hR;have hZ:=aa cT;have DN:=aa hb0;have nJ:=aa hb1;clear hp hR cT hb0 hb1
 go_enter func283,ntmps283
 go_wp2_with fail
 refine(HR.o st _ (by exact(HQ.o.alloc _).cz) hm).mono ?_;rintro e w1 ⟨qv,rfl,bp,cO,dG⟩;obtain⟨qo,qn,qc,rfl⟩:=cO.shape;have eo:=aa ((HQ.o.alloc _).trans bp);have hs1:=bp.size;simp at hs1;have HZ:=aa ((bp.but.block w.heap.size (by simp) (by omega)).trans (aF w _));have DL:=aa cO;have yv:=aa dG;clear bp cO dG;unfold bw;go_wp2
 go_loopg [10] ws.length (λn _ wr=>∃(l:Ex) (s:PS) (lo:Option Addr) (ln lc:Nat),Hy (cL ws R [t,u] st=dh ws R [t,u] n l s)/\s.rem ws<n/\Hy (Ok P ws w s wr)/\
   Hy (wr.heap[w1.heap.size]?=some (.cells #[.int .i64 l.aL,.int .i64 l.ai,.string ⟨l.ag.toArray⟩,.int .i64 l.value,.slice lo ln lc] 231 (0,0)))/\
   Hy (wr.heap[w.heap.size]?=some (.cells #[.int .i64 0,.int .i64 0,.string ⟨#[]⟩,.int .i64 0,.slice none 0 0] 231 (0,0)))/\
   Hy (bg (λk=>w.heap.size+1<=k/\k≠w1.heap.size) wr (.slice lo ln lc) l.aw)/\st.i<=s.i)
 case atStart=>
  refine⟨(R st).1,(R st).2,qo,qn,qc,rfl,?_,eo.o.alloc _,aF _ _,aI HZ.o _,?_,yv.o⟩
  ·have:=eo.o.cz.lt;simp only [PS.rem];omega
  ·exact(DL.o.bound.alloc _).mono (λk h _=>⟨by have:=h.1;simp at this;omega,by have:=h.2;omega⟩)
 obtain⟨l,s,lo,ln,lc,HC,jh,HO,xF,pP,HP,dG⟩:=hrel;have hlt:=HO.o.cz.lt;have Cu:=HO.o.size;have Dv:=af xF.o
 rcases hat:s.aN ws [t,u]with _|_
 ·have HF:=aa (show cL ws R [t,u] st=(l,s) by
   rw [HC.o]
   cases gk with
   |zero=>omega
   |succ n=>simp [dh,hat])
  go_wp2_with fail
  refine(lG P ws s _ (by exact HO.o.cz) b t u (by exact(HO.o.but.cell oP DM 0).trans DN.o) (by exact(HO.o.but.cell oP DM 1).trans nJ.o) (by omega)).mono ?_;rintro e w2 ⟨rfl,hb⟩;rw [hat];have et:=aa (HO.o.below hb);have iJ:=aa ((hb.block _ Dv).trans xF.o);have oq:=aa ((hb.block _ (af pP.o)).trans pP.o);have sH:=aa (HP.o.keep (S':=λk=>w.heap.size+1<=k/\k≠w1.heap.size) (λk h1 h2=>⟨h1,hb.block k h2⟩));clear hb;have l0:=ae iJ.o 0;have l1:=ae iJ.o 1;have l2:=ae iJ.o 2;have l3:=ae iJ.o 3;have l4:=ae iJ.o 4;have lf:=aj iJ.o;have ls:=af iJ.o;simp at l0 l1 l2 l3 l4;have z0:=ae oq.o 0;have z1:=ae oq.o 1;have z2:=ae oq.o 2;have z3:=ae oq.o 3;have z4:=ae oq.o 4;have zf:=aj oq.o;have zs:=af oq.o;simp at z0 z1 z2 z3 z4;go_wp2;refine bodyPost_ret (v:=bw l (.slice lo ln lc)) (by simp [results,results283,go_sem,z0,z1,z2,z3,z4,zs,bw]) rfl ?_;refine⟨.slice lo ln lc,by rw [HF.o],?_,?_,?_⟩
  ·rw [HF.o];exact et.o.gY _ (Nat.le_refl _) _ _ _ _ _
  ·rw [HF.o];exact(sH.o.gY _ _ _ _ _ _ (by omega)).mono (λk h _=>by omega)
  ·rw [HF.o];exact dG
 have hi:=PS.bX hZ.o hat hlt;have sX:=PS.dw hi;have gC:=PS.cj hlt
 have Ax:(s.next ws).rem ws<m:=by
  have:=PS.cH (ws:=ws) (st:=st) (st':=s) dG;omega
 go_wp2_with fail
 refine(lG P ws s _ (by exact HO.o.cz) b t u (by exact(HO.o.but.cell oP DM 0).trans DN.o) (by exact(HO.o.but.cell oP DM 1).trans nJ.o) (by omega)).mono ?_;rintro e w2 ⟨rfl,hb⟩;rw [hat];have et:=aa (HO.o.below hb);have iJ:=aa ((hb.block _ Dv).trans xF.o);have oq:=aa ((hb.block _ (af pP.o)).trans pP.o);have sH:=aa (HP.o.keep (S':=λk=>w.heap.size+1<=k/\k≠w1.heap.size) (λk h1 h2=>⟨h1,hb.block k h2⟩));clear hb;have l0:=ae iJ.o 0;have l1:=ae iJ.o 1;have l2:=ae iJ.o 2;have l3:=ae iJ.o 3;have l4:=ae iJ.o 4;have lf:=aj iJ.o;have ls:=af iJ.o;simp at l0 l1 l2 l3 l4
 go_wp2_with fail
 refine(Kf P ws m R HR.o s _ (by exact et.o.cz) Ax l lo ln lc (λk=>w.heap.size+1<=k/\k≠w1.heap.size) (by exact sH.o) (by intro k h;omega)).mono ?_;rintro e w3 ⟨rv,rfl,vO,uC,yx⟩;obtain⟨ro,rn,rc,rfl⟩:=uC.shape;have oJ:=aa (et.o.trans vO);have qL:=aa ((vO.but.block _ ls (by omega)).trans iJ.o);have UO:=aa ((vO.but.block _ (af oq.o) (by omega)).trans oq.o);have DJ:=aa (uC.mono (S':=λk=>w.heap.size+1<=k/\k≠w1.heap.size) (λk h _=>by rcases h with h|h;exact h.1;omega));have sI:=aa yx;clear vO uC yx l0 l1 l2 l3 l4 lf;have m0:=ae qL.o 0;have m1:=ae qL.o 1;have m2:=ae qL.o 2;have m3:=ae qL.o 3;have m4:=ae qL.o 4;have mf:=aj qL.o;have ms:=af qL.o;simp at m0 m1 m2 m3 m4;unfold bw;generalize hx:fD ws R l s=x at*;have HX:=aa hx;clear hx;go_wp2
 go_roundg (gk-1)
 case measure=>omega
 case rel=>
  refine⟨x.1,x.2,ro,rn,rc,?_,?_,?_,?_,?_,?_,?_⟩
  ·show cL ws R [t,u] st=_
   rw [HC.o]
   cases gk with
   |zero=>omega
   |succ n=>simp [dh,hat,HX.o]
  ·have:=PS.cH (ws:=ws) sI.o;omega
  ·exact oJ.o.gY _ (by omega) _ _ _ _ _
  ·exact yw qL.o _ _ _ _ _
  ·exact oQ (by omega) UO.o _ _ _ _ _
  ·exact DJ.o.gY _ _ _ _ _ _ (by omega)
  ·exact Nat.le_trans dG (Nat.le_trans gC sI.o)
theorem lh.fin{w1 w2:World}{r:Ex×PS}{po:Option Addr}{pn pc:Nat}(h0:P.pb<w.heap.size)(h:Ok P ws w r.2 w2)(hp:bg (λk=>w1.heap.size<=k) w2 (.slice po pn pc) r.1.aw)(h1:w.heap.size+1<=w1.heap.size)(hg:st.i<=r.2.i):
  lh P ws w st r (.returned (bw r.1 (.slice po pn pc))) (((((w2.setCell ⟨w.heap.size,0,none⟩ (.int .i64 r.1.aL)).setCell ⟨w.heap.size,1,none⟩ (.int .i64 r.1.ai)).setCell ⟨w.heap.size,2,none⟩ (.string ⟨r.1.ag.toArray⟩)).setCell ⟨w.heap.size,3,none⟩ (.int .i64 r.1.value)).setCell ⟨w.heap.size,4,none⟩ (.slice po pn pc)):=
 ⟨_,rfl,h.gY _ (Nat.le_refl _) _ _ _ _ _,(hp.gY _ _ _ _ _ _ (by omega)).mono (λk h _=>by omega),hg⟩
theorem MQ(P:Pl)(ws:List Wd)(m:Nat)(R:PS->Ex×PS)(hR:Reads 288 ws P m R)(cT:∀s:PS,s.i+1=ws.length->(s.aU ws).aL=0):
  Reads 284 ws P m (cL ws R [[42],[47]]):=by
 intro st w hp hm;have h1:=af hp.blk;have HQ:=aa (Ok.refl hp);have HR:=aa hR;have hZ:=aa cT;clear hp hR cT
 go_enter func284,ntmps284
 go_wp2_with fail
 refine(Ct P ws m R HR.o st _ (by exact((HQ.o.alloc _).alloc _).cz) hm hZ.o (w.heap.size+1) [42] [47] (by simp) (by simp) (by simp) (by omega)).mono ?_;rintro e w2 ⟨qv,rfl,bp,cO,dG⟩;obtain⟨qo,qn,qc,rfl⟩:=cO.shape;have et:=aa (((HQ.o.alloc _).alloc _).trans bp);have HZ:=aa ((bp.but.block w.heap.size (by simp;omega) (by omega)).trans (aI (aF w _) _));have DL:=aa cO;have yv:=aa dG;clear bp cO dG;have z0:=ae HZ.o 0;have z1:=ae HZ.o 1;have z2:=ae HZ.o 2;have z3:=ae HZ.o 3;have z4:=ae HZ.o 4;have zf:=aj HZ.o;have zs:=af HZ.o;simp at z0 z1 z2 z3 z4;unfold bw;generalize hr:cL ws R [[42],[47]] st=r at*;have HX:=aa hr;clear hr;go_wp2;exact bodyPost_ret (v:=bw r.1 (.slice qo qn qc)) (by simp [results,results284,go_sem,z0,z1,z2,z3,z4,zs,bw]) rfl (lh.fin h1 et.o DL.o (by simp) yv.o)
theorem Q_(P:Pl)(ws:List Wd)(m:Nat)(R:PS->Ex×PS)(hR:Reads 284 ws P m R)(cT:∀s:PS,s.i+1=ws.length->(s.aU ws).aL=0):
  Reads 277 ws P m (cL ws R [[43],[45]]):=by
 intro st w hp hm;have h1:=af hp.blk;have HQ:=aa (Ok.refl hp);have HR:=aa hR;have hZ:=aa cT;clear hp hR cT
 go_enter func277,ntmps277
 go_wp2_with fail
 refine(G6 P ws m R HR.o st _ (by exact((HQ.o.alloc _).alloc _).cz) hm hZ.o (w.heap.size+1) [43] [45] (by simp) (by simp) (by simp) (by omega)).mono ?_;rintro e w2 ⟨qv,rfl,bp,cO,dG⟩;obtain⟨qo,qn,qc,rfl⟩:=cO.shape;have et:=aa (((HQ.o.alloc _).alloc _).trans bp);have HZ:=aa ((bp.but.block w.heap.size (by simp;omega) (by omega)).trans (aI (aF w _) _));have DL:=aa cO;have yv:=aa dG;clear bp cO dG;have z0:=ae HZ.o 0;have z1:=ae HZ.o 1;have z2:=ae HZ.o 2;have z3:=ae HZ.o 3;have z4:=ae HZ.o 4;have zf:=aj HZ.o;have zs:=af HZ.o;simp at z0 z1 z2 z3 z4;unfold bw;generalize hr:cL ws R [[43],[45]] st=r at*;have HX:=aa hr;clear hr;go_wp2;exact bodyPost_ret (v:=bw r.1 (.slice qo qn qc)) (by simp [results,results277,go_sem,z0,z1,z2,z3,z4,zs,bw]) rfl (lh.fin h1 et.o DL.o (by simp) yv.o)
theorem jz{base':Nat}{e:TypeId}(h:w.ownsRow base e size v n xs)(hb:base'<=base):w.ownsRow base' e size v n xs:=by
 refine⟨h.1,?_⟩
 rcases h.2 with h|⟨g,cap,aU,a,b,c⟩
 ·exact Or.inl h
 exact Or.inr ⟨g,cap,aU,a,Nat.le_trans hb b,c⟩
theorem yy(h:w.grownBy w' none)(r:Option Nat):w.grownBy w' r:=⟨h.os,h.tape,h.output,h.size,λk hk hne=>h.block k hk (by simp)⟩
theorem ji{P:Program}(w:World){ops:Array Oper}{rest:List Oper}{o:Oper}{a:Act}{Q:Exit->Act->World->Prop}(hg:o.guard=none)(s x:Operand)(t:TypeId)(hop:o.op=Op.call {callee:=Callee.builtin Builtin.append,args:=#[s,x],argTypes:=#[t,t]})(base:Nat)(e:TypeId)(i:TypeInfo)(z:Value)(size bytes:Nat)(h1:P.underlying t=some (.slice e))(h2:P.info? e=some i)(h3:i.zero=some z)(h4:i.size=size)(h5:i.bytes=bytes)(h6:z.cells.size=size)(h7:0<size)(g n cap:Nat)(xs:List Value)(hs:a.eval s=.slice (some ⟨g,0,none⟩) n cap)(hown:w.ownsRow base e size (.slice (some ⟨g,0,none⟩) n cap) n xs)(ad:Addr)(m c:Nat)(news:List Value)(hx:a.eval x=.slice (some ad) m c)(hn:news.length=m*size)(hc:∀j u,news[j]?=some u->w.cell? (ad.add j)=some u)(h1c:∀u∈news,u.oneCell'=true)(b1:n+m<=maxLen)(b2:(n+m)*bytes<=140737488355328)(hbase:base<=w.heap.size)(hK:∀g' cap' w',w'.ownsRow base e size (.slice (some ⟨g',0,none⟩) (n+m) cap') (n+m) (xs++news)->w.grownBy w' (some g)->(g'=g\/w.heap.size<=g')->wpList P ops Q rest (a.put o.dst (.slice (some ⟨g',0,none⟩) (n+m) cap')) w'):
  wpList P ops Q (o::rest) a w:=by
 by_cases hroom:n+m<=cap
 ·exact wpList_append_fits w hg s x t hop base e i size h1 h2 h4 g n cap xs hs hown ad m c news hx hn hc h1c hroom λw' r1 r2=>hK g cap w' r1 r2 (Or.inl rfl)
 rcases hown.2 with⟨h,_⟩|⟨g0,lH,aU,hv,hb0,aed,vJ,hcm,hcs,iX⟩
 ·simp at h
 simp only [Value.slice.injEq,Option.some.injEq,Addr.mk.injEq]at hv;obtain⟨⟨rfl,_⟩,_,rfl⟩:=hv;refine wpList_append_grows w hg s x t hop e i z size bytes h1 h2 h3 h4 h5 h6 h7 (some ⟨g,0,none⟩) n cap xs hs (λh=>by cases h) hown.1 ?_ ad m c news hx hn hc h1c (by omega) b1 b2 ?_
 ·intro b hb j u hj
  simp only [Option.some.injEq]at hb;subst hb
  have xW:j<n*size:=by rw [<-hown.1];exact(List.getElem?_eq_some_iff.1 hj).1
  have e1:(Addr.add ⟨g,0,none⟩ j)=⟨g,j,none⟩:=by unfold Addr.add;split<;>simp_all
  rw [e1,ae aed,<-hj,<-iX,List.getElem?_take,if_pos xW];simp
 intro v' w' r1 r2
 rcases r1.2 with⟨hv',h0⟩|⟨g',cap',cur',hv',hb',MR⟩
 ·have:(xs++news).length=0:=by rw [r1.1,h0];simp
  have hlen:0<n+m:=by omega
  omega
 subst hv';exact hK g' cap' w' (jz r1 hbase) (yy r2 _) (Or.inr hb')
theorem Kg:(prog.info? 231).map (λi=>(i.zero,i.size,i.bytes))=some (some (.agg #[.int .i64 0,.int .i64 0,.string ⟨#[]⟩,.int .i64 0,.slice none 0 0]),5,64):=by kernel_rfl
def pQ(S:Nat->Prop)(w:World)(xs:List Value)(es:List Ex):Prop:=
 ∀j,(h:j<es.length)->∃pj,(xs.drop (j*5)).take 5=eX es[j] pj/\bg S w pj es[j].aw
theorem pQ.keep{S':Nat->Prop}(h:pQ S w xs es)(hk:∀k,S k->k<w.heap.size->S' k/\w'.heap[k]?=w.heap[k]?):pQ S' w' xs es:=
 λj hj=>by obtain⟨pj,a,b⟩:=h j hj;exact⟨pj,a,b.keep hk⟩
theorem pQ.snoc(h:pQ S w xs es)(hl:xs.length=es.length*5){x:Ex}{pv:Value}(hx:bg S w pv x.aw):
  pQ S w (xs++eX x pv) (es++ [x]):=by
 intro j hj
 by_cases e:j<es.length
 ·obtain⟨pj,a,b⟩:=h j e
  refine⟨pj,?_,?_⟩
  ·rw [List.drop_append_of_le_length (by omega),List.take_append_of_le_length (by simp;omega),a,List.getElem_append_left e]
  ·rw [List.getElem_append_left e];exact b
 have e':j=es.length:=by simp at hj;omega
 subst e';refine⟨pv,?_,?_⟩
 ·rw [<-hl,List.drop_left]
  simp [eX]
 simpa using hx
theorem bg.own(ho:w.ownsRow base 231 5 (.slice (some ⟨g,0,none⟩) es.length cap) es.length xs)(hS:S g)(h:pQ S w xs es):
  bg S w (.slice (some ⟨g,0,none⟩) es.length cap) es:=by
 rcases ho.2 with⟨h,_⟩|⟨g0,lH,aU,hv,hb0,aed,vJ,hcm,hcs,iX⟩
 ·simp at h
 simp only [Value.slice.injEq,Option.some.injEq,Addr.mk.injEq]at hv;obtain⟨⟨rfl,_⟩,_,rfl⟩:=hv
 refine bg.row hS vJ aed λj hj=> ?_
 obtain⟨pj,a,b⟩:=h j hj;refine⟨pj,?_,b⟩;rw [<-a,<-iX,List.drop_take,List.take_take]
 congr 1
 omega
theorem aM{e:TypeId}(h:w.ownsRow base e size v n xs)(hk:∀g,v.ownBlock=some g->w'.heap[g]?=w.heap[g]?):w'.ownsRow base e size v n xs:=by
 refine⟨h.1,?_⟩
 rcases h.2 with h|⟨g,cap,aU,a,b,c,d⟩
 ·exact Or.inl h
 exact Or.inr ⟨g,cap,aU,a,b,(hk g (by rw [a];rfl)).trans c,d⟩
theorem nU{e:TypeId}(h:w.ownsRow base e size (.slice (some ⟨g,0,none⟩) n cap) n xs):base<=g/\g<w.heap.size:=by
 rcases h.2 with⟨h,_⟩|⟨g0,lH,aU,hv,hb,c,d⟩
 ·simp at h
 simp only [Value.slice.injEq,Option.some.injEq,Addr.mk.injEq]at hv;obtain⟨⟨rfl,_⟩,_,rfl⟩:=hv;exact⟨hb,af c⟩
theorem Ok.grown{w0:World}(h:Ok P ws w0 st w)(hg:w.grownBy w' (some g))(hb:w0.heap.size<=g):Ok P ws w0 st w':=by
 have hp:∀k,k<w0.heap.size->w'.heap[k]?=w.heap[k]?:=λk hk=>hg.block k (Nat.lt_of_lt_of_le hk h.size) (by intro e;simp at e;omega)
 refine⟨h.p1,h.p2,⟨hg.os.trans h.but.os,hg.tape.trans h.but.tape,hg.output.trans h.but.output,Nat.le_trans h.size hg.size,λk hk hne=>(hp k hk).trans (h.but.block k hk hne)⟩,?_⟩;exact⟨(hp _ h.p1).trans h.cz.blk,(hp _ h.p2).trans h.cz.row,h.cz.cells,h.cz.ne,h.cz.lt,h.cz.small,h.cz.fits⟩
def Y8(P:Pl)(ws:List Wd)(w:World)(st:PS)(r:List Ex×PS)(e:Ending)(w':World):Prop:=
 ∃po pn pc,e=.returned (.slice po pn pc)/\Ok P ws w r.2 w'/\bg (λk=>w.heap.size<=k) w' (.slice po pn pc) r.1/\st.i<=r.2.i
theorem MT(P:Pl)(ws:List Wd)(m:Nat)(R:PS->Ex×PS)(hR:Reads 208 ws P m R)(cT:∀s:PS,s.i+1=ws.length->(s.aU ws).aL=0)(st:PS)(w:World)(hp:jJ P ws st w)(hm:(st.au ws [40]).rem ws<m):
  Calls prog 295 #[.pointer (some ⟨P.pb,0,none⟩),.func (.func 208) #[.pointer (some ⟨P.pb,0,none⟩)] #[]] w (Y8 P ws w st (dZ ws R st)):=by
 have h1:=af hp.blk;have hg0:=PS.bQ (ws:=ws) [40] hp.lt;have hsm:=hp.small;have HQ:=aa (Ok.refl hp);have HR:=aa hR;have hZ:=aa cT;clear hp hR cT
 rcases hc:(st.au ws [40]).aN ws [[41]]with _|_
 rotate_left
 ·have HF:=aa (show dZ ws R st=([],(st.au ws [40]).next ws) by simp [dZ,hc])
  have HS:=aa (show(st.au ws [40]).a_ ws [41]=(st.au ws [40]).next ws by simp [PS.a_,hc])
  go_enter func295,ntmps295
  go_wp2_with fail
  refine(cJ P ws st _ (by exact HQ.o.cz) [40]).mono ?_;rintro e w1 ⟨rfl,hb⟩;have eo:=aa (HQ.o.go hb);have oT:=hb.2.lt;clear hb
  go_wp2_with fail
  refine(fP P ws (st.au ws [40]) _ (by exact eo.o.cz) [41]).mono ?_;rintro e w2 ⟨rfl,hb⟩;rw [HS.o]at hb;have et:=aa (eo.o.go hb);have hn:=PS.cj (ws:=ws) oT;clear hb;rw [hc];go_wp2;go_ret;rw [HF.o];exact⟨none,0,0,rfl,et.o,bg.nil _ _,Nat.le_trans hg0 hn⟩
 have HF:=aa (show dZ ws R st=((R (st.au ws [40])).1::(dR ws R ws.length (R (st.au ws [40])).2).1,(dR ws R ws.length (R (st.au ws [40])).2).2.au ws [41]) by simp [dZ,hc]);have HS:=aa (show(st.au ws [40]).a_ ws [41]=st.au ws [40] by simp [PS.a_,hc]);obtain⟨i0,hi,hz0,hz1,hz2⟩:=info_parts Kg
 go_enter func295,ntmps295
 go_wp2_with fail
 refine(cJ P ws st _ (by exact HQ.o.cz) [40]).mono ?_;rintro e w1 ⟨rfl,hb⟩;have eo:=aa (HQ.o.go hb);clear hb
 go_wp2_with fail
 refine(fP P ws (st.au ws [40]) _ (by exact eo.o.cz) [41]).mono ?_;rintro e w2 ⟨rfl,hb⟩;rw [HS.o]at hb;have et:=aa (eo.o.go hb);have hs2:=et.o.size;clear hb;rw [hc]
 go_wp2_with fail
 refine(HR.o (st.au ws [40]) _ (by exact et.o.cz) hm).mono ?_;rintro e w3 ⟨qv,rfl,bp,cO,dG⟩;obtain⟨qo,qn,qc,rfl⟩:=cO.shape;have oJ:=aa (et.o.trans bp);have DJ:=aa cO;have hs3:=bp.size;have iY:=bp.cz.lt;generalize hr:R (st.au ws [40])=r at*;have HE:=aa hr;clear bp cO hr;unfold bw;go_wp2
 go_loopg [5] ws.length (λn v wr=>∃(tl:List Ex) (s:PS) (g cap:Nat) (xs:List Value),v=.slice (some ⟨g,0,none⟩) (tl.length+1) cap/\Hy (dR ws R ws.length r.2=(tl++(dR ws R n s).1,(dR ws R n s).2))/\s.rem ws<n/\tl.length+n<=ws.length/\Hy (Ok P ws w s wr)/\
   Hy (wr.ownsRow w.heap.size 231 5 (.slice (some ⟨g,0,none⟩) (tl.length+1) cap) (tl.length+1) xs)/\Hy (pQ (λk=>w.heap.size<=k/\k≠g) wr xs (r.1::tl))/\r.2.i<=s.i)
 case atStart=>
  refine⟨[],r.2,w3.heap.size,1,eX r.1 (.slice qo qn qc),rfl,rfl,?_,by simp,oJ.o.alloc _,?_,?_,Nat.le_refl _⟩
  ·simp only [PS.rem];omega
  ·exact⟨rfl,Or.inr ⟨w3.heap.size,1,_,rfl,by omega,aF _ _,Nat.le_refl _,by unfold maxLen;omega,rfl,rfl⟩⟩
  ·intro j hj
   match j,hj with
   |0,_=>exact⟨.slice qo qn qc,rfl,(DJ.o.bound.alloc _).mono (λk h _=>⟨by have:=h.1;omega,by have:=h.2;omega⟩)⟩
 obtain⟨tl,s,g,cap,xs,rfl,HC,jh,Ay,HO,Cv,XG,Kh⟩:=hrel;have hlt:=HO.o.cz.lt;have eP:=nU Cv.o
 rcases hat:s.aN ws [[44]]with _|_
 ·have oK:=aa (show dR ws R ws.length r.2=(tl,s) by
   rw [HC.o]
   cases gk with
   |zero=>omega
   |succ n=>simp [dR,hat])
  have kg:=aa (show s.a_ ws [44]=s by simp [PS.a_,hat])
  go_wp2_with fail
  refine(fP P ws s _ (by exact HO.o.cz) [44]).mono ?_;rintro e w4 ⟨rfl,hb⟩;rw [kg.o]at hb;have ot:=aa (HO.o.go hb);have mh:=aa (aM Cv.o (w':=w4) (λk e=>hb.1.block k (by simp [Value.ownBlock]at e;omega) (by simp [Value.ownBlock]at e;omega)));have UP:=aa (XG.o.keep (S':=λk=>w.heap.size<=k/\k≠g) (λk h1 h2=>⟨h1,hb.1.block k h2 (by omega)⟩));clear hb;rw [hat]
  go_wp2_with fail
  refine(cJ P ws s _ (by exact ot.o.cz) [41]).mono ?_;rintro e w5 ⟨rfl,hb⟩;have Ai:=aa (ot.o.go hb);have UQ:=nU mh.o;have sJ:=aa (aM mh.o (w':=w5) (λk e=>hb.1.block k (by simp [Value.ownBlock]at e;omega) (by simp [Value.ownBlock]at e;omega)));have UR:=aa (UP.o.keep (S':=λk=>w.heap.size<=k) (λk h1 h2=>⟨h1.1,hb.1.block k h2 (by omega)⟩));have rR:=PS.bQ (ws:=ws) [41] hlt;clear hb;go_wp2;go_ret;rw [HF.o,oK.o];exact⟨_,_,_,rfl,Ai.o,bg.own (es:=r.1::tl) sJ.o eP.1 UR.o,Nat.le_trans hg0 (Nat.le_trans dG (Nat.le_trans Kh rR))⟩
 have Cw:=PS.bX hZ.o hat hlt;have sX:=PS.dw Cw;have gC:=PS.cj hlt;have kg:=aa (show s.a_ ws [44]=s.next ws by simp [PS.a_,hat])
 go_wp2_with fail
 refine(fP P ws s _ (by exact HO.o.cz) [44]).mono ?_;rintro e w4 ⟨rfl,hb⟩;rw [kg.o]at hb;have ot:=aa (HO.o.go hb);have mh:=aa (aM Cv.o (w':=w4) (λk e=>hb.1.block k (by simp [Value.ownBlock]at e;omega) (by simp [Value.ownBlock]at e;omega)));have UP:=aa (XG.o.keep (S':=λk=>w.heap.size<=k/\k≠g) (λk h1 h2=>⟨h1,hb.1.block k h2 (by omega)⟩));have UQ:=nU mh.o;clear hb;rw [hat]
 go_wp2_with fail
 refine(HR.o (s.next ws) _ (by exact ot.o.cz) (by have:=PS.cH (ws:=ws) (Nat.le_trans dG (Nat.le_trans Kh gC));omega)).mono ?_;rintro e w5 ⟨qv5,rfl,DO,US,MU⟩;obtain⟨qo5,qn5,qc5,rfl⟩:=US.shape;have Ai:=aa (ot.o.trans DO);have sJ:=aa (aM mh.o (w':=w5) (λk e=>DO.but.block k (by simp [Value.ownBlock]at e;omega) (by simp [Value.ownBlock]at e;omega)));have UR:=aa (UP.o.keep (S':=λk=>w.heap.size<=k/\k≠g) (λk h1 h2=>⟨h1,DO.but.block k h2 (by omega)⟩));have XH:=aa (US.mono (S':=λk=>w.heap.size<=k/\k≠g) (λk h _=>by have:=ot.o.size;omega));have Gk:=aa MU;have abe:=nU sJ.o;have hs5:=Ai.o.size;generalize Az:R (s.next ws)=r5 at*;have Y9:=aa Az;clear DO US MU Az;unfold bw
 go_wp2_with (at_builtin;refine ji _ rfl _ _ 229 rfl w.heap.size 231 i0 (.agg #[.int .i64 0,.int .i64 0,.string ⟨#[]⟩,.int .i64 0,.slice none 0 0]) 5 64 underlying229 hi hz0 hz1 hz2 rfl (by decide) g (tl.length+1) cap xs rfl (sJ.o.alloc _) ⟨w5.heap.size,0,none⟩ 1 1 (eX r5.1 (.slice qo5 qn5 qc5)) rfl rfl ?c1 ?c2 ?c3 ?c4 ?c5 ?_)
 case c1=>
  intro j u hj
  match j,hj with
  |0,hj=>simp [eX]at hj;subst hj;simp [Addr.add]
  |1,hj=>simp [eX]at hj;subst hj;simp [Addr.add]
  |2,hj=>simp [eX]at hj;subst hj;simp [Addr.add]
  |3,hj=>simp [eX]at hj;subst hj;simp [Addr.add]
  |4,hj=>simp [eX]at hj;subst hj;simp [Addr.add]
 case c2=>intro u hu;simp [eX]at hu;rcases hu with rfl|rfl|rfl|rfl|rfl<;>rfl
 case c3=>unfold maxLen;omega
 case c4=>omega
 case c5=>simp;omega
 intro g' cap' w6 hown' aB aJ;have Cx:=aa ((Ai.o.alloc _).grown aB eP.1);have abf:=aa (((UR.o.keep (w':=w5.alloc (.cells #[.int .i64 r5.1.aL,.int .i64 r5.1.ai,.string ⟨r5.1.ag.toArray⟩,.int .i64 r5.1.value,.slice qo5 qn5 qc5] 231)) (S':=λk=>(w.heap.size<=k/\k≠g)/\k<w5.heap.size) (λk h1 h2=>⟨⟨h1,h2⟩,Below.heap_alloc _ _ _ h2⟩))).keep (w':=w6) (S':=λk=>w.heap.size<=k/\k≠g') (λk h1 h2=>⟨⟨h1.1.1,by(try simp at aJ);omega⟩,aB.block k h2 (by simp;omega)⟩));have MV:=aa ((XH.o.bound.alloc (.cells #[.int .i64 r5.1.aL,.int .i64 r5.1.ai,.string ⟨r5.1.ag.toArray⟩,.int .i64 r5.1.value,.slice qo5 qn5 qc5] 231)).keep (w':=w6) (S':=λk=>w.heap.size<=k/\k≠g') (λk h1 h2=>⟨⟨h1.1.1,by(try simp at aJ);omega⟩,aB.block k h2 (by simp;omega)⟩));have UT:=aa hown';clear aB hown' aJ;go_wp2
 go_roundg (gk-1)
 case measure=>omega
 case rel=>
  refine⟨tl++ [r5.1],r5.2,g',cap',xs++eX r5.1 (.slice qo5 qn5 qc5),by simp,?_,?_,?_,Cx.o,?_,?_,?_⟩
  ·show dR ws R ws.length r.2=_
   rw [HC.o]
   cases gk with
   |zero=>omega
   |succ n=>simp [dR,hat,Y9.o]
  ·have:=PS.cH (ws:=ws) Gk.o;omega
  ·simp;omega
  ·show w6.ownsRow _ _ _ _ _ _
   have:=UT.o;simpa using this
  ·exact pQ.snoc (es:=r.1::tl) abf.o (by have:=sJ.o.1;simpa using this) MV.o
  ·exact Nat.le_trans Kh (Nat.le_trans gC Gk.o)
theorem bg.YA{XI:Ex}{YB:Value}(hS:S (w.heap.size+1))(ha:bg S w pa a.aw)(ha':bg S w UL a'.aw)(abg:bg S w YB XI.aw)(b:Nat)(hb:¬S b)(c0 c1 c2 c3 c4:Value)(o:Obj):
  bg S (((((((w.setCell ⟨b,0,none⟩ c0).setCell ⟨b,1,none⟩ c1).setCell ⟨b,2,none⟩ c2).setCell ⟨b,3,none⟩ c3).setCell ⟨b,4,none⟩ c4).alloc o).alloc (.cells #[.int .i64 a.aL,.int .i64 a.ai,.string ⟨a.ag.toArray⟩,.int .i64 a.value,pa,.int .i64 a'.aL,.int .i64 a'.ai,.string ⟨a'.ag.toArray⟩,.int .i64 a'.value,UL,.int .i64 XI.aL,.int .i64 XI.ai,.string ⟨XI.ag.toArray⟩,.int .i64 XI.value,YB] 231)) (.slice (some ⟨w.heap.size+1,0,none⟩) 3 3) [a,a',XI]:=by
 have hz:((((((w.setCell ⟨b,0,none⟩ c0).setCell ⟨b,1,none⟩ c1).setCell ⟨b,2,none⟩ c2).setCell ⟨b,3,none⟩ c3).setCell ⟨b,4,none⟩ c4).alloc o).heap.size=w.heap.size+1:=by simp
 have:=bg.abc (S:=S) (w:=(((((w.setCell ⟨b,0,none⟩ c0).setCell ⟨b,1,none⟩ c1).setCell ⟨b,2,none⟩ c2).setCell ⟨b,3,none⟩ c3).setCell ⟨b,4,none⟩ c4).alloc o) (by rw [hz];exact hS) ((ha.gY b c0 c1 c2 c3 c4 hb).alloc o) ((ha'.gY b c0 c1 c2 c3 c4 hb).alloc o) ((abg.gY b c0 c1 c2 c3 c4 hb).alloc o);rw [hz]at this;exact this
theorem bg.YC(hS:S (w.heap.size+1))(ha:bg S w pa a.aw)(ha':bg S w UL a'.aw)(b:Nat)(hb:¬S b)(c0 c1 c2 c3 c4:Value)(o:Obj):
  bg S (((((((w.setCell ⟨b,0,none⟩ c0).setCell ⟨b,1,none⟩ c1).setCell ⟨b,2,none⟩ c2).setCell ⟨b,3,none⟩ c3).setCell ⟨b,4,none⟩ c4).alloc o).alloc (.cells #[.int .i64 a.aL,.int .i64 a.ai,.string ⟨a.ag.toArray⟩,.int .i64 a.value,pa,.int .i64 a'.aL,.int .i64 a'.ai,.string ⟨a'.ag.toArray⟩,.int .i64 a'.value,UL] 231)) (.slice (some ⟨w.heap.size+1,0,none⟩) 2 2) [a,a']:=by
 have hz:((((((w.setCell ⟨b,0,none⟩ c0).setCell ⟨b,1,none⟩ c1).setCell ⟨b,2,none⟩ c2).setCell ⟨b,3,none⟩ c3).setCell ⟨b,4,none⟩ c4).alloc o).heap.size=w.heap.size+1:=by simp
 have:=bg.Y5 (S:=S) (w:=(((((w.setCell ⟨b,0,none⟩ c0).setCell ⟨b,1,none⟩ c1).setCell ⟨b,2,none⟩ c2).setCell ⟨b,3,none⟩ c3).setCell ⟨b,4,none⟩ c4).alloc o) (by rw [hz];exact hS) ((ha.gY b c0 c1 c2 c3 c4 hb).alloc o) ((ha'.gY b c0 c1 c2 c3 c4 hb).alloc o);rw [hz]at this;exact this
theorem G7(P:Pl)(ws:List Wd)(m:Nat)(R:PS->Ex×PS)(hR:Reads 208 ws P m R)(st:PS)(w:World)(hp:jJ P ws st w)(hm:(st.next ws).rem ws<m):
  Calls prog 250 #[.pointer (some ⟨P.pb,0,none⟩)] w (lh P ws w st (dX ws R st)):=by
 have h1:=af hp.blk;have hn:=PS.cj (ws:=ws) hp.lt;have HQ:=aa (Ok.refl hp);have HR:=aa hR;clear hp hR;have fw2:=uw
 go_enter func250,ntmps250
 go_wp2_with fail
 refine(dP P ws st _ (by exact(HQ.o.alloc _).cz)).mono ?_;rintro e w1 ⟨rfl,hb⟩;have eo:=aa ((HQ.o.alloc _).go hb);have qM:=aa (gN hb.1 h1);have hs1:=hb.1.size;simp at hs1;clear hb;unfold ed
 go_wp2_with fail
 refine(HR.o (st.next ws) _ (by exact eo.o.cz) hm).mono ?_;rintro e w2 ⟨qv,rfl,bp,cO,dG⟩;obtain⟨qo,qn,qc,rfl⟩:=cO.shape;have et:=aa (eo.o.trans bp);have iI:=aa ((bp.but.block _ (af qM.o) (by omega)).trans qM.o);have sH:=aa cO;have hs2:=bp.size;have hl2:=bp.cz.lt;generalize hr:R (st.next ws)=r at*;have Gl:=aa hr;clear bp cO hr;unfold bw
 go_wp2_with fail
 refine(cJ P ws r.2 _ (by exact(et.o.alloc _).cz) [116,104,101,110]).mono ?_;rintro e w3 ⟨rfl,hb3⟩;have oJ:=aa ((et.o.alloc _).go hb3);have rS:=aa ((hb3.1.block _ (by have:=af iI.o;simp;omega) (by omega)).trans (aI iI.o _));have A0:=aa ((hb3.1.block w2.heap.size (by simp) (by omega)).trans (aF w2 _));have DJ:=aa ((sH.o.alloc _).but (S':=λk=>w1.heap.size<=k) hb3.1 (λk h _=>⟨h,by omega⟩));have hs3:=hb3.1.size;simp at hs3;have hg3:=PS.bQ (ws:=ws) [116,104,101,110] hl2;clear hb3
 go_wp2_with fail
 refine(HR.o (r.2.au ws [116,104,101,110]) _ (by exact oJ.o.cz) (by have:=PS.cH (ws:=ws) (Nat.le_trans dG hg3);omega)).mono ?_;rintro e w4 ⟨qv',rfl,bp,cO,qN⟩;obtain⟨qo',qn',qc',rfl⟩:=cO.shape;have ot:=aa (oJ.o.trans bp);have UU:=aa ((bp.but.block _ (af rS.o) (by omega)).trans rS.o);have YD:=aa ((bp.but.block _ (af A0.o) (by omega)).trans A0.o);have HP4:=aa (DJ.o.but (S':=λk=>w1.heap.size<=k) bp.but (λk h _=>⟨h,by omega⟩));have Q6:=aa (cO.mono (S':=λk=>w1.heap.size<=k) (λk h _=>by omega));have mC:=bp.size;have hl4:=bp.cz.lt;generalize hr:R (r.2.au ws [116,104,101,110])=r' at*;have Mu:=aa hr;clear bp cO hr;unfold bw
 go_wp2_with fail
 refine(cJ P ws r'.2 _ (by exact(ot.o.alloc _).cz) [101,108,115,101]).mono ?_;rintro e w5 ⟨rfl,cZ⟩;have Ai:=aa ((ot.o.alloc _).go cZ);have UW:=aa ((cZ.1.block _ (by have:=af UU.o;simp;omega) (by omega)).trans (aI UU.o _));have YE:=aa ((cZ.1.block _ (by have:=af YD.o;simp;omega) (by omega)).trans (aI YD.o _));have gT:=aa ((cZ.1.block w4.heap.size (by simp) (by omega)).trans (aF w4 _));have XH:=aa ((HP4.o.alloc _).but (S':=λk=>w1.heap.size<=k) cZ.1 (λk h _=>⟨h,by omega⟩));have UX:=aa ((Q6.o.alloc _).but (S':=λk=>w1.heap.size<=k) cZ.1 (λk h _=>⟨h,by omega⟩));have hs5:=cZ.1.size;simp at hs5;have rR:=PS.bQ (ws:=ws) [101,108,115,101] hl4;clear cZ
 go_wp2_with fail
 refine(HR.o (r'.2.au ws [101,108,115,101]) _ (by exact Ai.o.cz) (by have:=PS.cH (ws:=ws) (Nat.le_trans dG (Nat.le_trans hg3 (Nat.le_trans qN rR)));omega)).mono ?_;rintro e w6 ⟨abh,rfl,bp,cO,MW⟩;obtain⟨abi,abj,abk,rfl⟩:=cO.shape;have Cx:=aa (Ai.o.trans bp);have DR:=aa ((bp.but.block _ (af UW.o) (by omega)).trans UW.o);have Cy:=aa ((bp.but.block _ (af YE.o) (by omega)).trans YE.o);have fY:=aa ((bp.but.block _ (af gT.o) (by omega)).trans gT.o);have MV:=aa (XH.o.but (S':=λk=>w1.heap.size<=k) bp.but (λk h _=>⟨h,by omega⟩));have vP:=aa (UX.o.but (S':=λk=>w1.heap.size<=k) bp.but (λk h _=>⟨h,by omega⟩));have vQ:=aa (cO.mono (S':=λk=>w1.heap.size<=k) (λk h _=>by omega));have pK:=bp.size;generalize hr:R (r'.2.au ws [101,108,115,101])=UY at*;have Ki:=aa hr;clear bp cO hr;unfold bw;have z0:=ae DR.o 0;have z1:=ae DR.o 1;have z2:=ae DR.o 2;have z3:=ae DR.o 3;have z4:=ae DR.o 4;have zf:=aj DR.o;have zs:=af DR.o;simp at z0 z1 z2 z3 z4;have l0:=ae Cy.o 0;have l1:=ae Cy.o 1;have l2:=ae Cy.o 2;have l3:=ae Cy.o 3;have l4:=ae Cy.o 4;have lf:=aj Cy.o;have ls:=af Cy.o;simp at l0 l1 l2 l3 l4;have m0:=ae fY.o 0;have m1:=ae fY.o 1;have m2:=ae fY.o 2;have m3:=ae fY.o 3;have m4:=ae fY.o 4;have mf:=aj fY.o;have ms:=af fY.o;simp at m0 m1 m2 m3 m4;go_wp2
 have hE:dX ws R st=(⟨5,(st.aU ws).ai,[],0,[r.1,r'.1,UY.1]⟩,UY.2):=by simp only [dX,Gl.o,Mu.o,Ki.o]
 rw [hE]
 exact bodyPost_ret (v:=bw ⟨5,(st.aU ws).ai,[],0,[r.1,r'.1,UY.1]⟩ (.slice (some ⟨w6.heap.size+1,0,none⟩) 3 3)) (by simp [results,results250,go_sem,z0,z1,z2,z3,z4,zs,bw]) rfl
  ⟨_,rfl,((Cx.o.gY _ (Nat.le_refl _) _ _ _ _ _).alloc _).alloc _,(bg.YA (S:=λk=>w1.heap.size<=k) (by omega) MV.o vP.o vQ.o w.heap.size (by omega) _ _ _ _ _ _).mono (λk h _=>by omega),Nat.le_trans hn (Nat.le_trans dG (Nat.le_trans hg3 (Nat.le_trans qN (Nat.le_trans rR MW))))⟩
theorem PS.oU(h:st.i<ws.length):st.i<=(st.bH ws).i:=by
 unfold PS.bH;split
 ·exact PS.cj h
 exact PS.rQ h
theorem DS(P:Pl)(ws:List Wd)(m:Nat)(R:PS->Ex×PS)(hR:Reads 208 ws P m R)(st:PS)(w:World)(hp:jJ P ws st w)(hm:(st.next ws).rem ws<m):
  Calls prog 251 #[.pointer (some ⟨P.pb,0,none⟩)] w (lh P ws w st (dD ws R st)):=by
 have h1:=af hp.blk;have hn:=PS.cj (ws:=ws) hp.lt;have HQ:=aa (Ok.refl hp);have HR:=aa hR;clear hp hR;have fw2:=uw
 go_enter func251,ntmps251
 go_wp2_with fail
 refine(dP P ws st _ (by exact(HQ.o.alloc _).cz)).mono ?_;rintro e w1 ⟨rfl,hb⟩;have eo:=aa ((HQ.o.alloc _).go hb);have qM:=aa (gN hb.1 h1);have hs1:=hb.1.size;simp at hs1;have oT:=hb.2.lt;clear hb;unfold ed
 go_wp2_with fail
 refine(uA P ws (st.next ws) _ (by exact eo.o.cz)).mono ?_;rintro e w2 ⟨rfl,bp⟩;have et:=aa (eo.o.trans bp);have iI:=aa ((bp.but.block _ (af qM.o) (by omega)).trans qM.o);have hs2:=bp.size;have hl2:=bp.cz.lt;have hg2:=PS.oU (ws:=ws) oT;clear bp;unfold ed
 go_wp2_with fail
 refine(cJ P ws ((st.next ws).bH ws) _ (by exact(et.o.alloc _).cz) [61]).mono ?_;rintro e w3 ⟨rfl,hb3⟩;have oJ:=aa ((et.o.alloc _).go hb3);have rS:=aa ((hb3.1.block _ (by have:=af iI.o;simp;omega) (by omega)).trans (aI iI.o _));have A0:=aa ((hb3.1.block w2.heap.size (by simp) (by omega)).trans (aF w2 _));have hs3:=hb3.1.size;simp at hs3;have hg3:=PS.bQ (ws:=ws) [61] hl2;clear hb3
 go_wp2_with fail
 refine(HR.o (((st.next ws).bH ws).au ws [61]) _ (by exact oJ.o.cz) (by have:=PS.cH (ws:=ws) (Nat.le_trans hg2 hg3);omega)).mono ?_;rintro e w4 ⟨qv',rfl,bp,cO,qN⟩;obtain⟨qo',qn',qc',rfl⟩:=cO.shape;have ot:=aa (oJ.o.trans bp);have UU:=aa ((bp.but.block _ (af rS.o) (by omega)).trans rS.o);have YD:=aa ((bp.but.block _ (af A0.o) (by omega)).trans A0.o);have Q6:=aa (cO.mono (S':=λk=>w1.heap.size<=k) (λk h _=>by omega));have mC:=bp.size;have hl4:=bp.cz.lt;generalize hr:R (((st.next ws).bH ws).au ws [61])=r' at*;have Mu:=aa hr;clear bp cO hr;unfold bw
 go_wp2_with fail
 refine(cJ P ws r'.2 _ (by exact(ot.o.alloc _).cz) [105,110]).mono ?_;rintro e w5 ⟨rfl,cZ⟩;have Ai:=aa ((ot.o.alloc _).go cZ);have UW:=aa ((cZ.1.block _ (by have:=af UU.o;simp;omega) (by omega)).trans (aI UU.o _));have YE:=aa ((cZ.1.block _ (by have:=af YD.o;simp;omega) (by omega)).trans (aI YD.o _));have gT:=aa ((cZ.1.block w4.heap.size (by simp) (by omega)).trans (aF w4 _));have UX:=aa ((Q6.o.alloc _).but (S':=λk=>w1.heap.size<=k) cZ.1 (λk h _=>⟨h,by omega⟩));have hs5:=cZ.1.size;simp at hs5;have rR:=PS.bQ (ws:=ws) [105,110] hl4;clear cZ
 go_wp2_with fail
 refine(HR.o (r'.2.au ws [105,110]) _ (by exact Ai.o.cz) (by have:=PS.cH (ws:=ws) (Nat.le_trans hg2 (Nat.le_trans hg3 (Nat.le_trans qN rR)));omega)).mono ?_;rintro e w6 ⟨abh,rfl,bp,cO,MW⟩;obtain⟨abi,abj,abk,rfl⟩:=cO.shape;have Cx:=aa (Ai.o.trans bp);have DR:=aa ((bp.but.block _ (af UW.o) (by omega)).trans UW.o);have Cy:=aa ((bp.but.block _ (af YE.o) (by omega)).trans YE.o);have fY:=aa ((bp.but.block _ (af gT.o) (by omega)).trans gT.o);have vP:=aa (UX.o.but (S':=λk=>w1.heap.size<=k) bp.but (λk h _=>⟨h,by omega⟩));have vQ:=aa (cO.mono (S':=λk=>w1.heap.size<=k) (λk h _=>by omega));have pK:=bp.size;generalize hr:R (r'.2.au ws [105,110])=UY at*;have Ki:=aa hr;clear bp cO hr;unfold bw;have z0:=ae DR.o 0;have z1:=ae DR.o 1;have z2:=ae DR.o 2;have z3:=ae DR.o 3;have z4:=ae DR.o 4;have zf:=aj DR.o;have zs:=af DR.o;simp at z0 z1 z2 z3 z4;have l1:=ae Cy.o 1;have ls:=af Cy.o;simp at l1;have m0:=ae fY.o 0;have m1:=ae fY.o 1;have m2:=ae fY.o 2;have m3:=ae fY.o 3;have m4:=ae fY.o 4;have mf:=aj fY.o;have ms:=af fY.o;simp at m0 m1 m2 m3 m4;go_wp2
 have hE:dD ws R st=(⟨6,(st.aU ws).ai,((st.next ws).cK ws).aX,0,[r'.1,UY.1]⟩,UY.2):=by simp only [dD,Mu.o,Ki.o]
 rw [hE]
 exact bodyPost_ret (v:=bw ⟨6,(st.aU ws).ai,((st.next ws).cK ws).aX,0,[r'.1,UY.1]⟩ (.slice (some ⟨w6.heap.size+1,0,none⟩) 2 2)) (by simp [results,results251,go_sem,z0,z1,z2,z3,z4,zs,bw]) rfl
  ⟨_,rfl,((Cx.o.gY _ (Nat.le_refl _) _ _ _ _ _).alloc _).alloc _,(bg.YC (S:=λk=>w1.heap.size<=k) (by omega) vP.o vQ.o w.heap.size (by omega) _ _ _ _ _ _).mono (λk h _=>by omega),Nat.le_trans hn (Nat.le_trans hg2 (Nat.le_trans hg3 (Nat.le_trans qN (Nat.le_trans rR MW))))⟩
def MX(ws:List Wd)(R:PS->Ex×PS)(st:PS):Ex×PS:=if(R st).2.aN ws [[60],[61,61]]then fD ws R (R st).1 (R st).2 else R st
theorem DT(P:Pl)(ws:List Wd)(m:Nat)(R:PS->Ex×PS)(hR:Reads 277 ws P m R)(cT:∀s:PS,s.i+1=ws.length->(s.aU ws).aL=0):
  Reads 252 ws P m (MX ws R):=by
 intro st w hp hm;have h1:=af hp.blk;have HQ:=aa (Ok.refl hp);have HR:=aa hR;have hZ:=aa cT;clear hp hR cT
 rcases hat:(R st).2.aN ws [[60],[61,61]]with _|_
 all_goals
  go_enter func252,ntmps252
  go_wp2_with fail
  refine(HR.o st _ (by exact(HQ.o.alloc _).cz) hm).mono ?_;rintro e w1 ⟨qv,rfl,bp,cO,dG⟩;obtain⟨qo,qn,qc,rfl⟩:=cO.shape;have eo:=aa ((HQ.o.alloc _).trans bp);have hs1:=bp.size;simp at hs1;have qM:=aa ((bp.but.block w.heap.size (by simp) (by omega)).trans (aF w _));have DL:=aa cO;have yv:=aa dG;have hlt:=bp.cz.lt;clear bp cO dG;unfold bw
  go_wp2_with fail
  refine(lG P ws (R st).2 _ (by exact((eo.o.alloc _).alloc _).cz) (w1.heap.size+1) [60] [61,61] (by simp) (by simp) (by simp)).mono ?_;rintro e w2 ⟨rfl,hb⟩;rw [hat];have et:=aa (((eo.o.alloc _).alloc _).below hb);have xF:=aa ((hb.block w1.heap.size (by simp;omega)).trans (aI (aF w1 _) _));have iI:=aa ((hb.block w.heap.size (by simp;omega)).trans (aI (aI qM.o _) _));have sH:=aa (((DL.o.alloc _).alloc _).keep (S':=λk=>w.heap.size+1<=k) (λk h1 h2=>⟨by simpa using h1,hb.block k h2⟩));have hs2:=hb.size;simp at hs2;clear hb;have l0:=ae xF.o 0;have l1:=ae xF.o 1;have l2:=ae xF.o 2;have l3:=ae xF.o 3;have l4:=ae xF.o 4;have lf:=aj xF.o;have ls:=af xF.o;simp at l0 l1 l2 l3 l4
 ·have HF:=aa (show MX ws R st=R st by simp [MX,hat])
  have z0:=ae iI.o 0;have z1:=ae iI.o 1;have z2:=ae iI.o 2;have z3:=ae iI.o 3;have z4:=ae iI.o 4;have zf:=aj iI.o;have zs:=af iI.o;simp at z0 z1 z2 z3 z4;go_wp2;rw [HF.o];exact bodyPost_ret (v:=bw (R st).1 (.slice qo qn qc)) (by simp [results,results252,go_sem,z0,z1,z2,z3,z4,zs,bw]) rfl ⟨_,rfl,et.o.gY _ (Nat.le_refl _) _ _ _ _ _,(sH.o.gY _ _ _ _ _ _ (by omega)).mono (λk h _=>by omega),yv.o⟩
 have HF:=aa (show MX ws R st=fD ws R (R st).1 (R st).2 by simp [MX,hat]);have hi:=PS.bX hZ.o hat hlt;have sX:=PS.dw hi;have Gm:=PS.cH (ws:=ws) yv.o;have gC:=PS.cj hlt
 go_wp2_with fail
 refine(MP P ws m R HR.o (R st).2 _ (by exact et.o.cz) (by omega) (R st).1 qo qn qc (λk=>w.heap.size+1<=k) (by exact sH.o) (by intro k h;omega)).mono ?_;rintro e w3 ⟨rv,rfl,vO,uC,yx⟩;obtain⟨ro,rn,rc,rfl⟩:=uC.shape;have oJ:=aa (et.o.trans vO);have rS:=aa ((vO.but.block _ (af iI.o) (by omega)).trans iI.o);have DJ:=aa (uC.mono (S':=λk=>w.heap.size+1<=k) (λk h _=>by rcases h with h|h;exact h.1;omega));have sI:=aa yx;clear vO uC yx;have z0:=ae rS.o 0;have z1:=ae rS.o 1;have z2:=ae rS.o 2;have z3:=ae rS.o 3;have z4:=ae rS.o 4;have zf:=aj rS.o;have zs:=af rS.o;simp at z0 z1 z2 z3 z4;unfold bw;generalize hx:fD ws R (R st).1 (R st).2=x at*;have HX:=aa hx;clear hx;go_wp2;rw [HF.o];exact bodyPost_ret (v:=bw x.1 (.slice ro rn rc)) (by simp [results,results252,go_sem,z0,z1,z2,z3,z4,zs,bw]) rfl ⟨_,rfl,oJ.o.gY _ (Nat.le_refl _) _ _ _ _ _,(DJ.o.gY _ _ _ _ _ _ (by omega)).mono (λk h _=>by omega),Nat.le_trans yv.o (Nat.le_trans gC sI.o)⟩
end Go.Proofs.YtpmmjkiclngpmaaGreatDoor
