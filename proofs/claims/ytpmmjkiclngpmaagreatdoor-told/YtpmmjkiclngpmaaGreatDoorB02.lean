/- YtpmmjkiclngpmaaGreatDoorB02 -/
import Derived.Test.YtpmmjkiclngpmaaGreatDoorB01
import Derived.BigQuiet
set_option maxRecDepth 100000
set_option linter.unusedSimpArgs false
set_option linter.unusedVariables false
set_option maxHeartbeats 12800000
namespace Go.Proofs.YtpmmjkiclngpmaaGreatDoor
open Tryz
open Go.RowKit
variable{w w1 w':World}{st:PS}{ws:List Wd}{P:Pl}{pv pa pb:Value}{S S':Nat->Prop}{n:Nat}
def ed(x:Wd):Value:=.agg #[.int .i64 x.aL,.string ⟨x.aX.toArray⟩,.int .i64 x.ai]
theorem dm(P:Pl)(ws:List Wd)(st:PS)(w:World)(hp:jJ P ws st w):
  Calls prog 159 #[.pointer (some ⟨P.pb,0,none⟩)] w λe w'=>
   e=.returned (ed (st.aU ws))/\Below w.heap.size w w':=by
 obtain⟨f0,f1,f2,f3⟩:=hp.field;obtain⟨c0,c1,c2⟩:=hp.QX;have hlt:=hp.lt;have hsm:=hp.small;have h1:=af hp.blk;have h2:=af hp.row;generalize st.aU ws=x at*;clear hp
 go_enter func159,ntmps159
 go_wp2
 go_region
 all_goals (try go_wp2)
 exact bodyPost_ret (v:=.agg #[.int .i64 x.aL,.string ⟨x.aX.toArray⟩,.int .i64 x.ai]) (by simp [results,results159,go_sem]) rfl ⟨rfl,((Below.refl _ _).alloc (Nat.le_refl _) _).drew⟩
theorem QY{z:Obj}(hb:Below (w.alloc z).heap.size (w.alloc z) w1)(hp:jJ P ws st w)(v:Int)(hv:v=((st.next ws).i:Int))(c0 c1 c2:Value)(o:Obj):
  eh P.pb w (((((w1.setCell ⟨P.pb,1,none⟩ (.int .i64 v)).setCell ⟨w.heap.size,0,none⟩ c0).setCell ⟨w.heap.size,1,none⟩ c1).setCell ⟨w.heap.size,2,none⟩ c2).alloc o).drew/\
  jJ P ws (st.next ws) (((((w1.setCell ⟨P.pb,1,none⟩ (.int .i64 v)).setCell ⟨w.heap.size,0,none⟩ c0).setCell ⟨w.heap.size,1,none⟩ c1).setCell ⟨w.heap.size,2,none⟩ c2).alloc o).drew:=by
 have h1:=af hp.blk;have hb1:eh P.pb w w1:=(eh.aW ((Below.refl _ _).alloc (Nat.le_refl _) z)).trans (eh.aW hb);have xV:=(hp.below ((Below.refl _ _).alloc (Nat.le_refl _) z)).below hb;have DF:=(((((hb1.setCell (p:=⟨P.pb,1,none⟩) (Or.inl rfl) (.int .i64 v)).setCell (p:=⟨w.heap.size,0,none⟩) (Or.inr (Nat.le_refl _)) c0).setCell (p:=⟨w.heap.size,1,none⟩) (Or.inr (Nat.le_refl _)) c1).setCell (p:=⟨w.heap.size,2,none⟩) (Or.inr (Nat.le_refl _)) c2).alloc o).drew;refine⟨DF,hp.but DF ?_ (PS.cB hp.lt)⟩;refine tH (aI ?_ o);rw [Below.heap_setCell _ _ _ _ (by show P.pb≠w.heap.size;omega),Below.heap_setCell _ _ _ _ (by show P.pb≠w.heap.size;omega),Below.heap_setCell _ _ _ _ (by show P.pb≠w.heap.size;omega),ax xV.blk,hv]
 rfl
theorem dP(P:Pl)(ws:List Wd)(st:PS)(w:World)(hp:jJ P ws st w):
  Calls prog 249 #[.pointer (some ⟨P.pb,0,none⟩)] w λe w'=>
   e=.returned (ed (st.aU ws))/\eh P.pb w w'/\jJ P ws (st.next ws) w':=by
 have h1:=af hp.blk;have hlt:=hp.lt;have hsm:=hp.small
 go_enter func249,ntmps249
 go_wp2_with fail
 refine(dm P ws st _ (by exact hp.below ((Below.refl _ _).alloc (Nat.le_refl _) _))).mono ?_;rintro e w1 ⟨rfl,hb⟩;have xV:=(hp.below ((Below.refl _ _).alloc (Nat.le_refl _) (.cells #[.int .i64 0,.string ⟨#[]⟩,.int .i64 0] 274))).below hb
 have hz:w1.heap[w.heap.size]?=some (.cells #[.int .i64 0,.string ⟨#[]⟩,.int .i64 0] 274 (0,0)):=
  (hb.block _ (by simp)).trans (aF _ _)
 have hs1:w.heap.size<w1.heap.size:=af hz;obtain⟨f0,f1,f2,f3⟩:=xV.field;have g1:=aj xV.blk;have z0:=ae hz 0;have z1:=ae hz 1;have z2:=ae hz 2;have zf:=aj hz;simp at z0 z1 z2
 have MM:P.pb<w1.heap.size:=by omega
 have hne:¬P.pb=w.heap.size:=by omega
 have Ka:¬P.pb=w1.heap.size:=by omega
 unfold ed;generalize hx:st.aU ws=x at*;have HX:=aa hx;clear hx;have HB:=aa hb;have HP:=aa xV;have HZ:=aa hz;have HQ:=aa hp;clear hb xV hz hp
 by_cases hl:st.i+1<ws.length
 all_goals
  go_wp2
  go_region
  all_goals (try go_wp2)
  exact bodyPost_ret (v:=.agg #[.int .i64 x.aL,.string ⟨x.aX.toArray⟩,.int .i64 x.ai]) (by simp [results,results249,go_sem,hne,Ka,zf,hs1,z0,z1,z2]) rfl ⟨by rw [HX.o];rfl,QY HB.o HQ.o _ (by simp [PS.next];omega) _ _ _ _⟩
theorem MN(hb:Below w.heap.size w w1)(hp:jJ P ws st w)(hf:st.aH=false)(v u:Int)(hv:v=((st.aU ws).ai:Int))(hu:u=((ws.length-1:Nat):Int)):
  eh P.pb w (((w1.setCell ⟨P.pb,2,none⟩ (.bool true)).setCell ⟨P.pb,3,none⟩ (.int .i64 v)).setCell ⟨P.pb,1,none⟩ (.int .i64 u))/\
  jJ P ws (st.fail ws) (((w1.setCell ⟨P.pb,2,none⟩ (.bool true)).setCell ⟨P.pb,3,none⟩ (.int .i64 v)).setCell ⟨P.pb,1,none⟩ (.int .i64 u)):=by
 have DF:=(((eh.aW (pb:=P.pb) hb).setCell (p:=⟨P.pb,2,none⟩) (Or.inl rfl) (.bool true)).setCell (p:=⟨P.pb,3,none⟩) (Or.inl rfl) (.int .i64 v)).setCell (p:=⟨P.pb,1,none⟩) (Or.inl rfl) (.int .i64 u);refine⟨DF,hp.but DF ?_ (PS.rO hp.lt)⟩;rw [ax (ax (ax (hp.below hb).blk 2 _) 3 _) 1 _,hv,hu];simp [PS.fail,hf]
theorem G4(hp:jJ P ws st w)(hf:st.aH=true)(u:Int)(hu:u=((ws.length-1:Nat):Int)):
  eh P.pb w (w.setCell ⟨P.pb,1,none⟩ (.int .i64 u))/\jJ P ws (st.fail ws) (w.setCell ⟨P.pb,1,none⟩ (.int .i64 u)):=by
 have DF:=(eh.refl P.pb w).setCell (p:=⟨P.pb,1,none⟩) (Or.inl rfl) (.int .i64 u);refine⟨DF,hp.but DF ?_ (PS.rO hp.lt)⟩;rw [ax hp.blk 1 _,hu];simp [PS.fail,hf]
theorem uz(P:Pl)(ws:List Wd)(st:PS)(w:World)(hp:jJ P ws st w):
  Calls prog 160 #[.pointer (some ⟨P.pb,0,none⟩)] w λe w'=>
   e=.returned (.tuple #[])/\eh P.pb w w'/\jJ P ws (st.fail ws) w':=by
 have h1:=af hp.blk;have hlt:=hp.lt;have hsm:=hp.small;obtain⟨f0,f1,f2,f3⟩:=hp.field;have g0:=aj hp.blk;have HQ:=aa hp;clear hp
 rcases hf:st.aH with _|_
 ·rw [hf]at f2
  have HF:=aa hf;clear hf
  go_enter func160,ntmps160
  go_wp2_with fail
  refine(dm P ws st _ HQ.o).mono ?_;rintro e w1 ⟨rfl,hb⟩;have xV:=HQ.o.below hb;obtain⟨k0,k1,k2,k3⟩:=xV.field;have g1:=aj xV.blk;have MM:=af xV.blk;unfold ed;generalize hx:st.aU ws=x at*;have HX:=aa hx;have HB:=aa hb;clear hx hb xV f0 f1 f2 f3;rw [HF.o]at k2;have fw2:=uw;go_wp2
  go_end0
  exact⟨rfl,MN HB.o HQ.o HF.o _ _ (by rw [HX.o]) (by omega)⟩
 rw [hf]at f2;have HF:=aa hf;clear hf
 go_enter func160,ntmps160
 go_wp2
 go_end0
 exact⟨rfl,G4 HQ.o HF.o _ (by omega)⟩
def hasB(ss:List (List UInt8))(t:List UInt8):Bool:=ss.contains t
def G5(b:Nat)(ss:List (List UInt8))(w:World):Prop:=∀j,(h:j<ss.length)->w.cell? ⟨b,j,none⟩=some (.string ⟨ss[j].toArray⟩)
theorem QZ(ss:List (List UInt8))(t:List UInt8)(k:Nat)(hk:k<ss.length)(h:ss[k]=t):ss.contains t=true:=by
 rw [List.contains_iff_mem];subst h;exact List.getElem_mem hk
theorem Kb(ss:List (List UInt8))(t:List UInt8)(h:∀j,(hj:j<ss.length)->ss[j]≠t):ss.contains t=false:=by
 rcases hc:ss.contains t with _|_
 ·rfl
 rw [List.contains_iff_mem]at hc;obtain⟨j,hj,e⟩:=List.mem_iff_getElem.1 hc;exact absurd e (h j hj)
theorem Kc(b cap:Nat)(ss:List (List UInt8))(t:List UInt8)(w:World)(hr:G5 b ss w)(hl:ss.length<=1000):
  Calls prog 276 #[.slice (some ⟨b,0,none⟩) ss.length cap,.string ⟨t.toArray⟩] w λe w'=>∃n:Int,e=.returned (.int .i64 n)/\Hy (decide (0<=n)=hasB ss t)/\w'=w:=by
 go_enter func276,ntmps276
 go_wp2
 go_loop [8] (λi=>∃k:Nat,k<=ss.length/\i=.int .i64 k/\Hy (∀j,(hj:j<ss.length)->j<k->ss[j]≠t)) (λi=>ss.length-(intOf i).toNat)
 case atStart=>exact⟨0,Nat.zero_le _,rfl,λj _ h=>by omega⟩
 obtain⟨k,hk,rfl,HA⟩:=hrel;have HR:=aa hr;clear hr
 by_cases hlt:k<ss.length
 ·have hc:=HR.o k hlt
  rcases he:(t==ss[k])with _|_
  ·go_wp2
   go_round
   case rel=>exact⟨k+1,by omega,by go_num,λj hj h e=>by
    by_cases ej:j=k
    ·subst ej;simp [e]at he
    ·exact HA.o j hj (by omega) e⟩
   case measure=>simp [intOf];omega
  ·go_wp2
   go_ret;exact⟨k,rfl,by show decide (0<=(k:Int))=hasB ss t;unfold hasB;rw [QZ ss t k hlt (by simpa using (beq_iff_eq.1 he).symm)];simp,rfl⟩
 go_wp2;go_ret;exact⟨-1,rfl,by show decide (0<=(-1:Int))=hasB ss t;unfold hasB;rw [Kb ss t (λj hj=>HA.o j hj (by omega))];rfl,rfl⟩
theorem Cs(b cap:Nat)(ss:List (List UInt8))(t:List UInt8)(w:World)(hr:G5 b ss w)(hl:ss.length<=1000):
  Calls prog 248 #[.slice (some ⟨b,0,none⟩) ss.length cap,.string ⟨t.toArray⟩] w λe w'=>e=.returned (.bool (hasB ss t))/\w'=w:=by
 have HR:=aa hr;clear hr
 go_enter func248,ntmps248
 go_wp2_with fail
 refine(Kc b cap ss t w HR.o hl).mono ?_;rintro e w1 ⟨n,rfl,hn,rfl⟩;go_wp2;go_ret;exact⟨bD hn.o,rfl⟩
theorem MO(P:Pl)(ws:List Wd)(st:PS)(w:World)(hp:jJ P ws st w)(b cap:Nat)(ss:List (List UInt8))(hr:G5 b ss w)(oP:b<w.heap.size)(hl:ss.length<=1000):
  Calls prog 201 #[.pointer (some ⟨P.pb,0,none⟩),.slice (some ⟨b,0,none⟩) ss.length cap] w λe w'=>
   e=.returned (.bool (st.aN ws ss))/\Below w.heap.size w w':=by
 have HQ:=aa hp;have HR:=aa hr;clear hp hr
 rcases hk:(((st.aU ws).aL:Int)==4)with _|_
 ·have HV:=aa (show st.aN ws ss=false by
   have:((st.aU ws).aL==4)=false:=by simp at hk⊢;omega
   simp [PS.aN,this])
  go_enter func201,ntmps201
  go_wp2_with fail
  refine(dm P ws st _ HQ.o).mono ?_;rintro e w1 ⟨rfl,hb⟩;unfold ed;have HB:=aa hb;clear hb;go_wp2;go_ret;exact⟨bD HV.o.symm,HB.o.alloc HB.o.size _⟩
 have HV:=aa (show st.aN ws ss=hasB ss (st.aU ws).aX by
  have:((st.aU ws).aL==4)=true:=by simp at hk⊢;omega
  simp [PS.aN,this,hasB])
 go_enter func201,ntmps201
 go_wp2_with fail
 refine(dm P ws st _ HQ.o).mono ?_;rintro e w1 ⟨rfl,hb⟩;unfold ed;have HB:=aa hb;clear hb
 go_wp2_with fail
 refine(Cs b cap ss (st.aU ws).aX _ (by intro j hj;rw [World.cell?_alloc_past _ _ _ (by have:=HB.o.size;simp;omega)];exact(HB.o.cell (p:=⟨b,j,none⟩) oP).trans (HR.o j hj)) hl).mono ?_;rintro e w2 ⟨rfl,rfl⟩;go_wp2;go_ret;exact⟨bD HV.o.symm,HB.o.alloc HB.o.size _⟩
theorem at_one(P:Pl)(ws:List Wd)(st:PS)(w:World)(hp:jJ P ws st w)(b:Nat)(t:List UInt8)(hr:w.cell? ⟨b,0,none⟩=some (.string ⟨t.toArray⟩))(oP:b<w.heap.size):
  Calls prog 201 #[.pointer (some ⟨P.pb,0,none⟩),.slice (some ⟨b,0,none⟩) 1 1] w λe w'=>
   e=.returned (.bool (st.aN ws [t]))/\Below w.heap.size w w':=
 MO P ws st w hp b 1 [t] (λj hj=>by simp at hj;subst hj;exact hr) oP (by simp)
theorem lG(P:Pl)(ws:List Wd)(st:PS)(w:World)(hp:jJ P ws st w)(b:Nat)(t u:List UInt8)(hr:w.cell? ⟨b,0,none⟩=some (.string ⟨t.toArray⟩))(hr':w.cell? ⟨b,1,none⟩=some (.string ⟨u.toArray⟩))(oP:b<w.heap.size):
  Calls prog 201 #[.pointer (some ⟨P.pb,0,none⟩),.slice (some ⟨b,0,none⟩) 2 2] w λe w'=>
   e=.returned (.bool (st.aN ws [t,u]))/\Below w.heap.size w w':=
 MO P ws st w hp b 2 [t,u] (λj hj=>by
  match j,hj with
  |0,_=>exact hr
  |1,_=>exact hr') oP (by simp)
def PS.a_(ws:List Wd)(st:PS)(t:List UInt8):PS:=if st.aN ws [t]then st.next ws else st
def PS.au(ws:List Wd)(st:PS)(t:List UInt8):PS:=if st.aN ws [t]then st.next ws else st.fail ws
theorem fP(P:Pl)(ws:List Wd)(st:PS)(w:World)(hp:jJ P ws st w)(t:List UInt8):
  Calls prog 204 #[.pointer (some ⟨P.pb,0,none⟩),.string ⟨t.toArray⟩] w λe w'=>
   e=.returned (.bool (st.aN ws [t]))/\eh P.pb w w'/\jJ P ws (st.a_ ws t) w':=by
 have HQ:=aa hp;clear hp;have HA:=aa (HQ.o.below ((Below.refl _ _).alloc (Nat.le_refl _) (.cells #[.string ⟨t.toArray⟩] 9)))
 rcases hk:st.aN ws [t]with _|_
 ·have HS:=aa (show st.a_ ws t=st by simp [PS.a_,hk])
  go_enter func204,ntmps204
  go_wp2_with fail
  refine(at_one P ws st _ HA.o w.heap.size t (by simp) (by simp)).mono ?_;rintro e w1 ⟨rfl,hb⟩;have HB:=aa hb;clear hb;rw [hk];go_wp2;go_ret;exact⟨rfl,(eh.aW ((Below.refl _ _).alloc (Nat.le_refl _) _)).trans (eh.aW HB.o),by rw [HS.o];exact HA.o.below HB.o⟩
 have HS:=aa (show st.a_ ws t=st.next ws by simp [PS.a_,hk])
 go_enter func204,ntmps204
 go_wp2_with fail
 refine(at_one P ws st _ HA.o w.heap.size t (by simp) (by simp)).mono ?_;rintro e w1 ⟨rfl,hb⟩;have HB:=aa hb;clear hb;rw [hk]
 go_wp2_with fail
 refine(dP P ws st _ (HA.o.below HB.o)).mono ?_;rintro e w2 ⟨rfl,hb2,Gi⟩;have cU:=aa hb2;have sH:=aa Gi;clear hb2 Gi;go_wp2;go_ret;exact⟨rfl,((eh.aW ((Below.refl _ _).alloc (Nat.le_refl _) _)).trans (eh.aW HB.o)).trans cU.o,by rw [HS.o];exact sH.o⟩
theorem cJ(P:Pl)(ws:List Wd)(st:PS)(w:World)(hp:jJ P ws st w)(t:List UInt8):
  Calls prog 202 #[.pointer (some ⟨P.pb,0,none⟩),.string ⟨t.toArray⟩] w λe w'=>
   e=.returned (.tuple #[])/\eh P.pb w w'/\jJ P ws (st.au ws t) w':=by
 have HQ:=aa hp;clear hp
 rcases hk:st.aN ws [t]with _|_
 ·have HS:=aa (show st.a_ ws t=st by simp [PS.a_,hk])
  have HE:=aa (show st.au ws t=st.fail ws by simp [PS.au,hk])
  go_enter func202,ntmps202
  go_wp2_with fail
  refine(fP P ws st _ HQ.o t).mono ?_;rintro e w1 ⟨rfl,hb,xV⟩;rw [HS.o]at xV;have HB:=aa hb;have HP:=aa xV;clear hb xV;rw [hk]
  go_wp2_with fail
  refine(uz P ws st _ HP.o).mono ?_;rintro e w2 ⟨rfl,hb2,Gi⟩;have cU:=aa hb2;have sH:=aa Gi;clear hb2 Gi;go_wp2
  go_end0
  exact⟨rfl,HB.o.trans cU.o,by rw [HE.o];exact sH.o⟩
 have HS:=aa (show st.a_ ws t=st.next ws by simp [PS.a_,hk]);have HE:=aa (show st.au ws t=st.next ws by simp [PS.au,hk])
 go_enter func202,ntmps202
 go_wp2_with fail
 refine(fP P ws st _ HQ.o t).mono ?_;rintro e w1 ⟨rfl,hb,xV⟩;rw [HS.o]at xV;have HB:=aa hb;have HP:=aa xV;clear hb xV;rw [hk];go_wp2
 go_end0
 exact⟨rfl,HB.o,by rw [HE.o];exact HP.o⟩
def PS.cK(ws:List Wd)(st:PS):Wd:=if(st.aU ws).aL=2 then st.aU ws else⟨0,[],0⟩
def PS.bH(ws:List Wd)(st:PS):PS:=if(st.aU ws).aL=2 then st.next ws else st.fail ws
theorem gN{pb:Nat}{o:Obj}(hb:eh pb (w.alloc o) w')(h:pb<w.heap.size):w'.heap[w.heap.size]?=some o:=(hb.block _ (by simp) (by omega)).trans (aF _ _)
theorem uA(P:Pl)(ws:List Wd)(st:PS)(w:World)(hp:jJ P ws st w):
  Calls prog 203 #[.pointer (some ⟨P.pb,0,none⟩)] w λe w'=>
   e=.returned (ed (st.cK ws))/\Ok P ws w (st.bH ws) w':=by
 have h1:=af hp.blk;have HQ:=aa (Ok.refl hp);clear hp;have fw0:=Cp
 rcases hk:(((st.aU ws).aL:Int) !=2)with _|_
 ·have gZ:(st.aU ws).aL=2:=by simp at hk;omega
  have HS:=aa (show st.bH ws=st.next ws by simp [PS.bH,gZ]);have HN:=aa (show st.cK ws=st.aU ws by simp [PS.cK,gZ]);clear gZ
  go_enter func203,ntmps203
  go_wp2_with fail
  refine(dm P ws st _ (by refine Ok.cz (w0:=w) ?_;repeat (first|exact HQ.o|refine Ok.alloc ?_ _|refine Ok.drew ?_|refine Ok.set ?_ _ _ _ (by omega)))).mono ?_
  rintro e w1 ⟨rfl,hb⟩;have eo:=aa ((HQ.o.alloc _).below hb);have hs1:=eo.o.size;have HB:=aa hb;clear hb;unfold ed
  go_wp2_with fail
  refine(dP P ws st _ (by refine Ok.cz (w0:=w) ?_;repeat (first|exact eo.o|refine Ok.alloc ?_ _|refine Ok.drew ?_|refine Ok.set ?_ _ _ _ (by omega)))).mono ?_
  rintro e w2 ⟨rfl,hb2⟩;have et:=aa (eo.o.go hb2);have HZ:=aa (gN ((eh.aW HB.o).trans hb2.1) h1);have hs2:=af HZ.o;clear hb2;have z0:=ae HZ.o 0;have z1:=ae HZ.o 1;have z2:=ae HZ.o 2;have zf:=aj HZ.o;simp at z0 z1 z2;unfold ed;go_wp2
  exact bodyPost_ret (v:=ed (st.aU ws)) (by simp [results,results203,go_sem,z0,z1,z2,ed]) rfl ⟨by rw [HN.o],by rw [HS.o];repeat (first|exact et.o|refine Ok.alloc ?_ _|refine Ok.drew ?_|refine Ok.set ?_ _ _ _ (by omega))⟩
 have gZ:¬(st.aU ws).aL=2:=by simp at hk;omega
 have HS:=aa (show st.bH ws=st.fail ws by simp [PS.bH,gZ]);have HN:=aa (show st.cK ws=⟨0,[],0⟩ by simp [PS.cK,gZ]);clear gZ
 go_enter func203,ntmps203
 go_wp2_with fail
 refine(dm P ws st _ (by refine Ok.cz (w0:=w) ?_;repeat (first|exact HQ.o|refine Ok.alloc ?_ _|refine Ok.drew ?_|refine Ok.set ?_ _ _ _ (by omega)))).mono ?_
 rintro e w1 ⟨rfl,hb⟩;have eo:=aa ((HQ.o.alloc _).below hb);have hs1:=eo.o.size;have HB:=aa hb;clear hb;unfold ed
 go_wp2_with fail
 refine(uz P ws st _ (by refine Ok.cz (w0:=w) ?_;repeat (first|exact eo.o|refine Ok.alloc ?_ _|refine Ok.drew ?_|refine Ok.set ?_ _ _ _ (by omega)))).mono ?_
 rintro e w2 ⟨rfl,hb2⟩;have et:=aa (eo.o.go hb2);have HZ:=aa (gN ((eh.aW HB.o).trans hb2.1) h1);have hs2:=af HZ.o;clear hb2;have z0:=ae HZ.o 0;have z1:=ae HZ.o 1;have z2:=ae HZ.o 2;have zf:=aj HZ.o;simp at z0 z1 z2;go_wp2
 exact bodyPost_ret (v:=ed ⟨0,[],0⟩) (by simp [results,results203,go_sem,z0,z1,z2,ed]) rfl ⟨by rw [HN.o],by rw [HS.o];repeat (first|exact et.o|refine Ok.alloc ?_ _|refine Ok.drew ?_|refine Ok.set ?_ _ _ _ (by omega))⟩
def PS.eF(ws:List Wd)(st:PS):Nat:=if st.aN ws [[105,110,116]]then 1 else 2
def PS.dQ(ws:List Wd)(st:PS):PS:=if st.aN ws [[105,110,116]]then st.next ws else st.au ws [98,111,111,108]
theorem uB(P:Pl)(ws:List Wd)(st:PS)(w:World)(hp:jJ P ws st w):
  Calls prog 207 #[.pointer (some ⟨P.pb,0,none⟩)] w λe w'=>
   e=.returned (.int .i64 (st.eF ws))/\Ok P ws w (st.dQ ws) w':=by
 have HQ:=aa (Ok.refl hp);clear hp
 rcases hk:st.aN ws [[105,110,116]]with _|_
 ·have HS:=aa (show st.a_ ws [105,110,116]=st by simp [PS.a_,hk])
  have HT:=aa (show st.eF ws=2/\st.dQ ws=st.au ws [98,111,111,108] by simp [PS.eF,PS.dQ,hk])
  go_enter func207,ntmps207
  go_wp2_with fail
  refine(fP P ws st _ (by refine Ok.cz (w0:=w) ?_;repeat (first|exact HQ.o|refine Ok.alloc ?_ _|refine Ok.drew ?_|refine Ok.set ?_ _ _ _ (by omega))) [105,110,116]).mono ?_
  rintro e w1 ⟨rfl,hb⟩;rw [HS.o]at hb;have eo:=aa (HQ.o.go hb);clear hb;rw [hk]
  go_wp2_with fail
  refine(cJ P ws st _ (by refine Ok.cz (w0:=w) ?_;repeat (first|exact eo.o|refine Ok.alloc ?_ _|refine Ok.drew ?_|refine Ok.set ?_ _ _ _ (by omega))) [98,111,111,108]).mono ?_
  rintro e w2 ⟨rfl,hb2⟩;have et:=aa (eo.o.go hb2);clear hb2;go_wp2;go_ret;exact⟨bR (by rw [HT.o.1];rfl),by rw [HT.o.2];exact et.o⟩
 have HS:=aa (show st.a_ ws [105,110,116]=st.next ws by simp [PS.a_,hk]);have HT:=aa (show st.eF ws=1/\st.dQ ws=st.next ws by simp [PS.eF,PS.dQ,hk])
 go_enter func207,ntmps207
 go_wp2_with fail
 refine(fP P ws st _ (by refine Ok.cz (w0:=w) ?_;repeat (first|exact HQ.o|refine Ok.alloc ?_ _|refine Ok.drew ?_|refine Ok.set ?_ _ _ _ (by omega))) [105,110,116]).mono ?_
 rintro e w1 ⟨rfl,hb⟩;rw [HS.o]at hb;have eo:=aa (HQ.o.go hb);clear hb;rw [hk];go_wp2;go_ret;exact⟨bR (by rw [HT.o.1];rfl),by rw [HT.o.2];exact eo.o⟩
structure Ex where
 aL:Nat
 ai:Nat
 ag:List UInt8
 value:Int
 aw:List Ex
variable{es:List Ex}{a b:Ex}
def eX(e:Ex)(pv:Value):List Value:= [.int .i64 e.aL,.int .i64 e.ai,.string ⟨e.ag.toArray⟩,.int .i64 e.value,pv]
def bw(e:Ex)(pv:Value):Value:=.agg #[.int .i64 e.aL,.int .i64 e.ai,.string ⟨e.ag.toArray⟩,.int .i64 e.value,pv]
def eB:Nat->(Nat->Prop)->World->Value->List Ex->Prop
 |0,_,_,pv,es=>es= []/\pv=.slice none 0 0
 |n+1,S,w,pv,es=>(es= []/\pv=.slice none 0 0)\/∃g cap aU,pv=.slice (some ⟨g,0,none⟩) es.length cap/\S g/\es.length<=cap/\
   w.heap[g]?=some (.cells aU 231 (0,0))/\∀j,(h:j<es.length)->∃pj,(aU.toList.drop (j*5)).take 5=eX es[j] pj/\eB n S w pj es[j].aw
def bg(S:Nat->Prop)(w:World)(pv:Value)(es:List Ex):Prop:=∃n,eB n S w pv es
theorem eB.mono{m:Nat}(h:eB n S w pv es)(hm:n<=m):eB m S w pv es:=by
 induction n generalizing m pv es with
 |zero=>
  cases m with
  |zero=>exact h
  |succ m=>exact Or.inl h
 |succ n ih=>
  cases m with
  |zero=>omega
  |succ m=>
   rcases h with h|⟨g,cap,aU,h1,h2,h3,h4,h5⟩
   ·exact Or.inl h
   ·exact Or.inr ⟨g,cap,aU,h1,h2,h3,h4,λj hj=>by
     obtain⟨pj,a,b⟩:=h5 j hj
     exact⟨pj,a,ih b (by omega)⟩⟩
theorem eB.keep(h:eB n S w pv es)(hk:∀k,S k->k<w.heap.size->S' k/\w'.heap[k]?=w.heap[k]?):eB n S' w' pv es:=by
 induction n generalizing pv es with
 |zero=>exact h
 |succ n ih=>
  rcases h with h|⟨g,cap,aU,h1,h2,h3,h4,h5⟩
  ·exact Or.inl h
  ·have hg:=hk g h2 (af h4)
   exact Or.inr ⟨g,cap,aU,h1,hg.1,h3,hg.2.trans h4,λj hj=>by
    obtain⟨pj,a,b⟩:=h5 j hj
    exact⟨pj,a,ih b⟩⟩
theorem bg.nil(S:Nat->Prop)(w:World):bg S w (.slice none 0 0) []:=⟨0,rfl,rfl⟩
theorem bg.keep(h:bg S w pv es)(hk:∀k,S k->k<w.heap.size->S' k/\w'.heap[k]?=w.heap[k]?):bg S' w' pv es:=by
 obtain⟨n,h⟩:=h;exact⟨n,h.keep hk⟩
theorem bg.but{pb:Nat}(h:bg S w pv es)(hb:eh pb w w')(hl:∀k,S k->k<w.heap.size->S' k/\k≠pb):bg S' w' pv es:=
 h.keep λk h1 h2=>⟨(hl k h1 h2).1,hb.block k h2 (hl k h1 h2).2⟩
theorem bg.alloc(h:bg S w pv es)(o:Obj):bg S (w.alloc o) pv es:=
 h.keep λk h1 h2=>⟨h1,Below.heap_alloc _ _ _ h2⟩
theorem bg.drew(h:bg S w pv es):bg S w.drew pv es:=h.keep λk h1 h2=>⟨h1,rfl⟩
theorem bg.set(h:bg S w pv es)(b o:Nat)(u:Value)(hb:¬S b):bg S (w.setCell ⟨b,o,none⟩ u) pv es:=
 h.keep λk h1 h2=>⟨h1,Below.heap_setCell _ _ _ _ (λe=>hb (by have e':k=b:=e;exact e'▸h1))⟩
theorem bg.gY(h:bg S w pv es)(b:Nat)(c0 c1 c2 c3 c4:Value)(hb:¬S b):
  bg S (((((w.setCell ⟨b,0,none⟩ c0).setCell ⟨b,1,none⟩ c1).setCell ⟨b,2,none⟩ c2).setCell ⟨b,3,none⟩ c3).setCell ⟨b,4,none⟩ c4) pv es:=
 ((((h.set b 0 c0 hb).set b 1 c1 hb).set b 2 c2 hb).set b 3 c3 hb).set b 4 c4 hb
theorem rP(w:World)(b:Nat)(c0 c1 c2 c3 c4:Value):(((((w.setCell ⟨b,0,none⟩ c0).setCell ⟨b,1,none⟩ c1).setCell ⟨b,2,none⟩ c2).setCell ⟨b,3,none⟩ c3).setCell ⟨b,4,none⟩ c4).heap.size=w.heap.size:=by
 simp [World.setCell]
theorem bg.mono(h:bg S w pv es)(hs:∀k,S k->k<w.heap.size->S' k):bg S' w pv es:=h.keep λk h1 h2=>⟨hs k h1 h2,rfl⟩
theorem bg.bound(h:bg S w pv es):bg (λk=>S k/\k<w.heap.size) w pv es:=h.mono λk a b=>⟨a,b⟩
theorem bg.shape(h:bg S w pv es):∃po pn pc,pv=.slice po pn pc:=by
 obtain⟨n,h⟩:=h
 cases n with
 |zero=>exact⟨_,_,_,h.2⟩
 |succ n=>
  rcases h with⟨_,h⟩|⟨g,cap,aU,h,_⟩
  ·exact⟨_,_,_,h⟩
  ·exact⟨_,_,_,h⟩
theorem bg.row{g cap:Nat}{aU:Array Value}(tI:S g)(hc:es.length<=cap)(hb:w.heap[g]?=some (.cells aU 231 (0,0)))(h:∀j,(h:j<es.length)->∃pj,(aU.toList.drop (j*5)).take 5=eX es[j] pj/\bg S w pj es[j].aw):bg S w (.slice (some ⟨g,0,none⟩) es.length cap) es:=by
 have key:∃n,∀j,(h:j<es.length)->∃pj,(aU.toList.drop (j*5)).take 5=eX es[j] pj/\eB n S w pj es[j].aw:=by
  have:∀m,m<=es.length->∃n,∀j,(h:j<es.length)->j<m->∃pj,(aU.toList.drop (j*5)).take 5=eX es[j] pj/\eB n S w pj es[j].aw:=by
   intro m
   induction m with
   |zero=>intro _;exact⟨0,λj _ hj=>by omega⟩
   |succ m ih=>
    intro hm;obtain⟨n,hn⟩:=ih (by omega);obtain⟨pj,a,n',b⟩:=h m (by omega);refine⟨max n n',λj hj Gj=> ?_⟩
    by_cases e:j=m
    ·subst e;exact⟨pj,a,b.mono (by omega)⟩
    ·obtain⟨pj',a',b'⟩:=hn j hj (by omega)
     exact⟨pj',a',b'.mono (by omega)⟩
  obtain⟨n,hn⟩:=this es.length (Nat.le_refl _);exact⟨n,λj hj=>hn j hj hj⟩
 obtain⟨n,hn⟩:=key;exact⟨n+1,Or.inr ⟨g,cap,aU,rfl,tI,hc,hb,hn⟩⟩
theorem bg.abb(hS:S w.heap.size)(ha:bg S w pa a.aw):
  bg S (w.alloc (.cells #[.int .i64 a.aL,.int .i64 a.ai,.string ⟨a.ag.toArray⟩,.int .i64 a.value,pa] 231)) (.slice (some ⟨w.heap.size,0,none⟩) 1 1) [a]:=
 bg.row (es:= [a]) hS (Nat.le_refl _) (aF _ _) λj hj=>by
  match j,hj with
  |0,_=>exact⟨pa,rfl,ha.alloc _⟩
theorem bg.Y5(hS:S w.heap.size)(ha:bg S w pa a.aw)(hb:bg S w pb b.aw):
  bg S (w.alloc (.cells #[.int .i64 a.aL,.int .i64 a.ai,.string ⟨a.ag.toArray⟩,.int .i64 a.value,pa,.int .i64 b.aL,.int .i64 b.ai,.string ⟨b.ag.toArray⟩,.int .i64 b.value,pb] 231)) (.slice (some ⟨w.heap.size,0,none⟩) 2 2) [a,b]:=
 bg.row (es:= [a,b]) hS (Nat.le_refl _) (aF _ _) λj hj=>by
  match j,hj with
  |0,_=>exact⟨pa,rfl,ha.alloc _⟩
  |1,_=>exact⟨pb,rfl,hb.alloc _⟩
theorem bg.abc{c:Ex}{pc:Value}(hS:S w.heap.size)(ha:bg S w pa a.aw)(hb:bg S w pb b.aw)(hc:bg S w pc c.aw):
  bg S (w.alloc (.cells #[.int .i64 a.aL,.int .i64 a.ai,.string ⟨a.ag.toArray⟩,.int .i64 a.value,pa,.int .i64 b.aL,.int .i64 b.ai,.string ⟨b.ag.toArray⟩,.int .i64 b.value,pb,.int .i64 c.aL,.int .i64 c.ai,.string ⟨c.ag.toArray⟩,.int .i64 c.value,pc] 231)) (.slice (some ⟨w.heap.size,0,none⟩) 3 3) [a,b,c]:=
 bg.row (es:= [a,b,c]) hS (Nat.le_refl _) (aF _ _) λj hj=>by
  match j,hj with
  |0,_=>exact⟨pa,rfl,ha.alloc _⟩
  |1,_=>exact⟨pb,rfl,hb.alloc _⟩
  |2,_=>exact⟨pc,rfl,hc.alloc _⟩
theorem bg.Y6(hS:S w.heap.size)(ha:bg S w pa a.aw)(b:Nat)(hb:¬S b)(c0 c1 c2 c3 c4:Value):
  bg S ((((((w.setCell ⟨b,0,none⟩ c0).setCell ⟨b,1,none⟩ c1).setCell ⟨b,2,none⟩ c2).setCell ⟨b,3,none⟩ c3).setCell ⟨b,4,none⟩ c4).alloc (.cells #[.int .i64 a.aL,.int .i64 a.ai,.string ⟨a.ag.toArray⟩,.int .i64 a.value,pa] 231)) (.slice (some ⟨w.heap.size,0,none⟩) 1 1) [a]:=by
 have:=bg.abb (S:=S) (w:=(((((w.setCell ⟨b,0,none⟩ c0).setCell ⟨b,1,none⟩ c1).setCell ⟨b,2,none⟩ c2).setCell ⟨b,3,none⟩ c3).setCell ⟨b,4,none⟩ c4)) (by rw [rP];exact hS) (ha.gY b c0 c1 c2 c3 c4 hb);rw [rP]at this;exact this
theorem bg.UK{a':Ex}{UL:Value}(hS:S w.heap.size)(ha:bg S w pa a.aw)(ha':bg S w UL a'.aw)(b:Nat)(hb:¬S b)(c0 c1 c2 c3 c4:Value):
  bg S ((((((w.setCell ⟨b,0,none⟩ c0).setCell ⟨b,1,none⟩ c1).setCell ⟨b,2,none⟩ c2).setCell ⟨b,3,none⟩ c3).setCell ⟨b,4,none⟩ c4).alloc (.cells #[.int .i64 a.aL,.int .i64 a.ai,.string ⟨a.ag.toArray⟩,.int .i64 a.value,pa,.int .i64 a'.aL,.int .i64 a'.ai,.string ⟨a'.ag.toArray⟩,.int .i64 a'.value,UL] 231)) (.slice (some ⟨w.heap.size,0,none⟩) 2 2) [a,a']:=by
 have:=bg.Y5 (S:=S) (w:=(((((w.setCell ⟨b,0,none⟩ c0).setCell ⟨b,1,none⟩ c1).setCell ⟨b,2,none⟩ c2).setCell ⟨b,3,none⟩ c3).setCell ⟨b,4,none⟩ c4)) (by rw [rP];exact hS) (ha.gY b c0 c1 c2 c3 c4 hb) (ha'.gY b c0 c1 c2 c3 c4 hb);rw [rP]at this;exact this
def bin(k:Nat)(l r:Ex):Ex:=⟨k,l.ai,[],0,[l,r]⟩
def bJ(t:List UInt8):Nat:=if t== [60]then 7 else if t== [61,61]then 8 else if t== [43]then 9 else if t== [45]then 10 else if t== [42]then 11 else 12
def tJ:Ex:=⟨0,0,[],0,[]⟩
def fL(l:List UInt8):Nat:=l.foldl (λn c=>10*n+(c.toNat-48)) 0
def fD(ws:List Wd)(read:PS->Ex×PS)(l:Ex)(st:PS):Ex×PS:=
 (bin (bJ (st.aU ws).aX) l (read (st.next ws)).1,(read (st.next ws)).2)
def dh(ws:List Wd)(read:PS->Ex×PS)(iB:List (List UInt8)):Nat->Ex->PS->Ex×PS
 |0,l,st=>(l,st)
 |n+1,l,st=>if st.aN ws iB then dh ws read iB n (fD ws read l st).1 (fD ws read l st).2 else(l,st)
def cL(ws:List Wd)(read:PS->Ex×PS)(iB:List (List UInt8))(st:PS):Ex×PS:=dh ws read iB ws.length (read st).1 (read st).2
def Y7(ws:List Wd)(fa:PS->Ex×PS):PS->Ex×PS:=cL ws fa [[42],[47]]
def xE(ws:List Wd)(fa:PS->Ex×PS):PS->Ex×PS:=cL ws (Y7 ws fa) [[43],[45]]
def iP(ws:List Wd)(fa:PS->Ex×PS)(st:PS):Ex×PS:=
 if(xE ws fa st).2.aN ws [[60],[61,61]]then fD ws (xE ws fa) (xE ws fa st).1 (xE ws fa st).2 else xE ws fa st
def dX(ws:List Wd)(ex:PS->Ex×PS)(st:PS):Ex×PS:=
 let c:=ex (st.next ws)
 let t:=ex (c.2.au ws [116,104,101,110])
 let f:=ex (t.2.au ws [101,108,115,101])
 (⟨5,(st.aU ws).ai,[],0,[c.1,t.1,f.1]⟩,f.2)
def dD(ws:List Wd)(ex:PS->Ex×PS)(st:PS):Ex×PS:=
 let v:=ex (((st.next ws).bH ws).au ws [61])
 let r:=ex (v.2.au ws [105,110])
 (⟨6,(st.aU ws).ai,((st.next ws).cK ws).aX,0,[v.1,r.1]⟩,r.2)
def jN(ws:List Wd)(ex fa:PS->Ex×PS)(st:PS):Ex×PS:=
 if st.aN ws [[105,102]]then dX ws ex st else if st.aN ws [[108,101,116]]then dD ws ex st else iP ws fa st
def dR(ws:List Wd)(ex:PS->Ex×PS):Nat->PS->List Ex×PS
 |0,st=>([],st)
 |n+1,st=>if st.aN ws [[44]]then((ex (st.next ws)).1::(dR ws ex n (ex (st.next ws)).2).1,(dR ws ex n (ex (st.next ws)).2).2)else([],st)
def dZ(ws:List Wd)(ex:PS->Ex×PS)(st:PS):List Ex×PS:=
 let s1:=st.au ws [40]
 if s1.aN ws [[41]]then([],s1.next ws)
 else((ex s1).1::(dR ws ex ws.length (ex s1).2).1,(dR ws ex ws.length (ex s1).2).2.au ws [41])
def jO(ws:List Wd)(ex:PS->Ex×PS)(st:PS):Ex×PS:=
 if(st.next ws).aN ws [[40]]then(⟨3,(st.aU ws).ai,(st.aU ws).aX,0,(dZ ws ex (st.next ws)).1⟩,(dZ ws ex (st.next ws)).2)
 else(⟨2,(st.aU ws).ai,(st.aU ws).aX,0,[]⟩,st.next ws)
def qK(ws:List Wd)(st:PS):Ex×PS:=(⟨1,(st.aU ws).ai,[],if(st.aU ws).aX== [116,114,117,101]then 1 else 0,[]⟩,st.next ws)
def nT(ws:List Wd)(st:PS):Ex×PS:=(⟨0,(st.aU ws).ai,[],fL (st.aU ws).aX,[]⟩,st.next ws)
def jP(ws:List Wd)(ex:PS->Ex×PS)(st:PS):Ex×PS:=
 (⟨4,(st.aU ws).ai,[],0,[(ex (st.next ws)).1]⟩,(ex (st.next ws)).2.au ws [41])
def mK(ws:List Wd)(fa:PS->Ex×PS)(k:Nat)(st:PS):Ex×PS:=(⟨k,(st.aU ws).ai,[],0,[(fa (st.next ws)).1]⟩,(fa (st.next ws)).2)
def bI(ws:List Wd)(ex fa:PS->Ex×PS)(st:PS):Ex×PS:=
 if(st.aU ws).aL=3 then nT ws st
 else if(st.aU ws).aL=2 then jO ws ex st
 else if st.aN ws [[116,114,117,101],[102,97,108,115,101]]then qK ws st
 else if st.aN ws [[40]]then jP ws ex st
 else if st.aN ws [[45]]then mK ws fa 13 st
 else if st.aN ws [[33]]then mK ws fa 14 st
 else(tJ,st.fail ws)
def rd(ws:List Wd):Nat->(PS->Ex×PS)×(PS->Ex×PS)
 |0=>(λst=>(tJ,st),λst=>(tJ,st))
 |n+1=>(jN ws (rd ws n).1 (bI ws (rd ws n).1 (rd ws n).2),bI ws (rd ws n).1 (rd ws n).2)
def PS.rem(ws:List Wd)(st:PS):Nat:=ws.length-1-st.i
def lh(P:Pl)(ws:List Wd)(w:World)(st:PS)(r:Ex×PS)(e:Ending)(w':World):Prop:=
 ∃pv,e=.returned (bw r.1 pv)/\Ok P ws w r.2 w'/\bg (λk=>w.heap.size<=k) w' pv r.1.aw/\st.i<=r.2.i
def Reads(K:Nat)(ws:List Wd)(P:Pl)(m:Nat)(R:PS->Ex×PS):Prop:=
 ∀st w,jJ P ws st w->st.rem ws<m->Calls prog K #[.pointer (some ⟨P.pb,0,none⟩)] w (lh P ws w st (R st))
theorem PS.cj(h:st.i<ws.length):st.i<=(st.next ws).i:=by simp only [PS.next];omega
theorem PS.rQ(h:st.i<ws.length):st.i<=(st.fail ws).i:=by simp only [PS.fail];omega
theorem PS.bQ(t:List UInt8)(h:st.i<ws.length):st.i<=(st.au ws t).i:=by
 unfold PS.au;split
 ·exact PS.cj h
 exact PS.rQ h
theorem PS.bX{s:PS}{l:List (List UInt8)}(hl:∀s:PS,s.i+1=ws.length->(s.aU ws).aL=0)(h:s.aN ws l=true)(hs:s.i<ws.length):s.i+1<ws.length:=by
 rcases Nat.lt_or_ge (s.i+1) ws.length with h'|h'
 ·exact h'
 have:=hl s (by omega);simp [PS.aN,this]at h
theorem PS.fM{s:PS}(hl:∀s:PS,s.i+1=ws.length->(s.aU ws).aL=0)(h:(s.aU ws).aL≠0)(hs:s.i<ws.length):s.i+1<ws.length:=by
 rcases Nat.lt_or_ge (s.i+1) ws.length with h'|h'
 ·exact h'
 exact absurd (hl s (by omega)) h
theorem PS.dw{s:PS}(h:s.i+1<ws.length):(s.next ws).rem ws+1=s.rem ws:=by simp only [PS.rem,PS.next];omega
theorem PS.cH{st':PS}(h:st.i<=st'.i):st'.rem ws<=st.rem ws:=by simp only [PS.rem];omega
end Go.Proofs.YtpmmjkiclngpmaaGreatDoor
