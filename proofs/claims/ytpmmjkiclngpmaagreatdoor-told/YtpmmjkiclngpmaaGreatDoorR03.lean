/- YtpmmjkiclngpmaaGreatDoorR03 -/
import Derived.Test.YtpmmjkiclngpmaaGreatDoorR01
import Derived.Deep.CutBlock
import Derived.Test.YtpmmjkiclngpmaaGreatDoorB29
import Derived.Test.YtpmmjkiclngpmaaGreatDoorB37
import Derived.Deep.RegionHeld3
set_option maxRecDepth 100000
set_option linter.unusedSimpArgs false
set_option linter.unusedVariables false
set_option maxHeartbeats 12800000
namespace Go.Proofs.YtpmmjkiclngpmaaGreatDoor
open Tryz
open Go.RowKit
variable{st st' s s':PS}{ws:List Wd}{w w' wr wx wy:World}{P:Rp}{v v1 v2 a iv fv:Value}{lo n b s1 s2 n1 n2 b1 b2 size g kk mb k i cb g' cap' fc uc:Nat}{ex:PS->Ex×PS}{t:List UInt8}{c:Array Value}{r:Option Nat}{x1 x2 xs ys:List Value}{S S':Nat->Prop}{pl:List sL}{fl:List iL}{f:Nat×Nat}{U U':List Us}{F F':List (Nat×Nat)}{o:Obj}{fo uo:Option Addr}{K:List (Nm×Nm)}
def sT(t:Nat):Nat:=if t=1 then 105 else 98
theorem Fl{a b:List UInt8}(h:st.aN ws [a]=true)(hab:a≠b):st.aN ws [b]=false:=by
 unfold PS.aN at h⊢;simp at h⊢;intro _ e;exact hab (h.2.symm.trans e)
theorem Pf(h:Sd ws P st w)(hl:cG ws):
  Calls prog 237 #[.pointer (some ⟨P.rb,0,none⟩)] w λe w'=>∃k:Nat,e=.returned (.int .u8 k)/\(k=98\/k=105)/\((st.dQ ws).aH=false->k=sT (st.eF ws))/\eh P.rb w w'/\Sd ws P (st.dQ ws) w':=by
 obtain⟨i,bad,hg,hr⟩:=h;refine(OZ P (ws.map dV) i bad w hg).mono ?_;intro e w' hx;rw [hr.aN hl]at hx
 rcases ha:st.aN ws [[98,111,111,108]]with _|_
 ·rw [ha,if_neg (by simp)]at hx
  obtain⟨rfl,hb,XV⟩:=hx;have hm:=hr.must hl [105,110,116];refine⟨105,rfl,Or.inr rfl,?_,hb,_,_,XV,?_⟩
  ·intro hf
   unfold PS.dQ at hf;unfold PS.eF sT
   rcases hi:st.aN ws [[105,110,116]]with _|_
   ·rw [hi,if_neg (by simp)]at hf
    unfold PS.au at hf;rw [ha,if_neg (by simp)]at hf
    cases hf
   ·rfl
  ·have e2:st.dQ ws=st.au ws [105,110,116]:=by
    unfold PS.dQ PS.au;rw [ha]
    rcases hi:st.aN ws [[105,110,116]]with _|_<;>rfl
   rw [e2];exact hm
 rw [ha,if_pos rfl]at hx;obtain⟨rfl,hb,XV⟩:=hx;have hn:=Fl ha (b:= [105,110,116]) (by decide);obtain⟨rfl,hlt⟩:=hr.O' hl ha
 have e2:st.dQ ws=st.next ws:=by unfold PS.dQ PS.au;rw [hn,ha];rfl
 refine⟨98,rfl,Or.inl rfl,λ_=>by unfold PS.eF sT;rw [hn];rfl,hb,_,_,XV,?_⟩;rw [e2];exact hr.next hlt
def ny(k:Nat):List UInt8:=if k=98 then [98,111,111,108]else [105,110,116]
theorem wJ(k:Nat)(w:World):Calls prog 268 #[.int .u8 k] w λe w'=>e=.returned (.string ⟨(ny k).toArray⟩)/\w'=w:=by
 by_cases h:k=98
 ·subst h
  go_enter func268,ntmps268
  go_wp2;go_ret;exact⟨rfl,rfl⟩
 have hk:((k:Int)==98)=false:=by simpa using (show ¬(k:Int)=98 by omega)
 have HK:=aa h;clear h
 go_enter func268,ntmps268
 go_wp2;go_ret;refine⟨?_,rfl⟩;unfold ny;rw [if_neg HK.o]
 rfl
structure wK where
 ag:List UInt8
 ai:Nat
 gW:Bool
 ay:List (List UInt8×Nat)
 aef:List Nat
 aL:Nat
 br:Nat
variable{fs rl:List wK}
def r9(f:wK)(pv kv:Value):List Value:= [.string ⟨f.ag.toArray⟩,.int .i64 f.ai,.bool f.gW,pv,kv,.int .u8 f.aL,.int .i64 f.br]
def cD(l:List (List UInt8×Nat)):List Value:=l.flatMap λx=> [.string ⟨x.1.toArray⟩,.int .i64 x.2]
def uf(lo:Nat)(w:World)(v:Value)(fs:List wK):Prop:=∃xs,w.ownsRow lo 262 7 v fs.length xs/\
 ∀j (h:j<fs.length),∃pv kv,(∀o,o<7->xs[j*7+o]?=(r9 fs[j] pv kv)[o]?)/\w.ownsRow lo 260 2 pv fs[j].ay.length (cD fs[j].ay)/\w.ownsRow lo 5 1 kv fs[j].aef.length (fs[j].aef.map λ(k:Nat)=> .int .u8 k)
def jZ(n:List UInt8)(p:Bool):List wK->Nat->Int
 | [],_=> -1
 |f::r,k=>if(f.ag==n)&&(f.gW|| !p)then(k:Int)else jZ n p r (k+1)
theorem uf.cells(h:uf lo w v fs):(v=.slice none 0 0/\fs= [])\/∃g cap,v=.slice (some ⟨g,0,none⟩) fs.length cap/\lo<=g/\g<w.heap.size/\fs.length<=maxLen/\
  ∀j (h:j<fs.length),w.cell? ⟨g,j*7,none⟩=some (.string ⟨fs[j].ag.toArray⟩)/\w.cell? ⟨g,j*7+2,none⟩=some (.bool fs[j].gW):=by
 obtain⟨xs,ho,hx⟩:=h
 rcases ho.2 with⟨rfl,h0⟩|⟨g,cap,aU,rfl,hb,aed,vJ,hcm,hcs,iX⟩
 ·exact Or.inl ⟨rfl,List.eq_nil_of_length_eq_zero h0⟩
 refine Or.inr ⟨g,cap,rfl,hb,af aed,by omega,λj hj=> ?_⟩;obtain⟨pv,kv,hc,_,_⟩:=hx j hj
 have hl:∀o,o<7->aU[j*7+o]?=xs[j*7+o]?:=by
  intro o ho;rw [<-iX,List.getElem?_take,if_pos (by omega)];simp
 rw [ae aed,ae aed];exact⟨((hl 0 (by omega)).trans (hc 0 (by omega))),((hl 2 (by omega)).trans (hc 2 (by omega)))⟩
theorem si{α:Type}{l:List α}{j:Nat}(h:j<l.length):l.drop j=l[j]::l.drop (j+1):=List.drop_eq_getElem_cons h
theorem pD(fs:List wK)(lo:Nat)(w:World)(fv lv iv bv pv:Value)(h:uf lo w fv fs)(n:List UInt8)(p:Bool):
  Calls prog 134 #[.agg #[lv,iv,fv,bv,pv],.string ⟨n.toArray⟩,.bool p] w λe w'=>e=.returned (.int .i64 (jZ n p fs 0))/\Below w.heap.size w w':=by
 have HF:=aa h.cells
 have se:∃o c,fv=.slice o fs.length c:=by
  rcases h.cells with⟨rfl,rfl⟩|⟨g,cap,rfl,_⟩
  ·exact⟨_,_,rfl⟩
  ·exact⟨_,_,rfl⟩
 obtain⟨fo,fc,rfl⟩:=se
 have QN:=aa (show fs.length<=maxLen by rcases h.cells with⟨_,rfl⟩|⟨g,cap,_,_,_,h2,_⟩<;>first|(unfold maxLen;simp;done)|exact h2)
 clear h
 go_enter func134,ntmps134
 go_wp2
 go_loopw [7] (λiv wr=>∃j:Nat,j<=fs.length/\iv=.int .i64 j/\Hy (jZ n p fs 0=jZ n p (fs.drop j) j)/\Hy (∃o,wr=w.alloc o)/\wr.cell? ⟨w.heap.size,2,none⟩=some (.slice fo fs.length fc)) (λiv _=>fs.length-(intOf iv).toNat)
 case atStart=>exact⟨0,by omega,rfl,aa rfl,aa ⟨_,rfl⟩,by simp⟩
 obtain⟨j,hj,rfl,HE,HA,m2⟩:=hrel
 by_cases hlt:j<fs.length
 ·have E2:(j:Int)<(fs.length:Int):=by omega
  have L2:(0:Int)<=(j:Int):=by omega
  have HD:=aa (si hlt)
  have hm:(j:Int)+1<=9223372036854775807:=by have:=QN.o;unfold maxLen at this;omega
  rcases HF.o with⟨hv,hnil⟩|⟨g,cap,hv,tI,eP,gO,hcs⟩
  ·rw [hnil]at hlt;simp at hlt
  ·injection hv with v1 v2 v3
   subst v1 v3;obtain⟨c0,c2⟩:=hcs j hlt
   have HX:(wr.cell? ⟨g,j*7,none⟩=some (.string ⟨fs[j].ag.toArray⟩))/\wr.cell? ⟨g,j*7+2,none⟩=some (.bool fs[j].gW):=by
    obtain⟨o,rfl⟩:=HA.o;have hb:=(Below.refl w.heap.size w).alloc (Nat.le_refl _) o;exact⟨(hb.cell eP).trans c0,(hb.cell eP).trans c2⟩
   obtain⟨d0,d2⟩:=HX;clear c0 c2 hcs gO v2;obtain⟨x,hx⟩:∃x,x=fs[j]:=⟨_,rfl⟩;rw [<-hx]at d0 d2 HD;have HX:=aa hx;clear hx;have HV:=aa (show jZ n p fs 0=if(x.ag==n)&&(x.gW|| !p)then(j:Int)else jZ n p (fs.drop (j+1)) (j+1) by rw [HE.o,HD.o];rfl)
   rcases h1:(x.ag==n)with _|_
   ·have HN:=aa (show jZ n p fs 0=jZ n p (fs.drop (j+1)) (j+1) by rw [HV.o,h1];rfl)
    go_wp2
    go_roundw
    case rel=>exact⟨j+1,by omega,by go_num,HN,HA,m2⟩
    case measure=>simp [intOf];omega
   ·obtain⟨xp,Wy⟩:∃xp,xp=x.gW:=⟨_,rfl⟩
    rw [<-Wy]at d2 HV;have HXp:=aa Wy;clear Wy
    rcases xp with _|_
    ·rcases p with _|_
     ·have HN:=aa (show jZ n false fs 0=(j:Int) by rw [HV.o,h1];rfl)
      go_wp2;go_ret;exact⟨by rw [HN.o];rfl,by obtain⟨o,rfl⟩:=HA.o;exact(Below.refl _ _).alloc (Nat.le_refl _) o⟩
     ·have HN:=aa (show jZ n true fs 0=jZ n true (fs.drop (j+1)) (j+1) by rw [HV.o,h1];rfl)
      go_wp2
      go_roundw
      case rel=>exact⟨j+1,by omega,by go_num,HN,HA,m2⟩
      case measure=>simp [intOf];omega
    ·have HN:=aa (show jZ n p fs 0=(j:Int) by rw [HV.o,h1];rfl)
     go_wp2;go_ret;exact⟨by rw [HN.o];rfl,by obtain⟨o,rfl⟩:=HA.o;exact(Below.refl _ _).alloc (Nat.le_refl _) o⟩
 have E2:¬(j:Int)<(fs.length:Int):=by omega
 have HN:=aa (show jZ n p fs 0= -1 by rw [HE.o,List.drop_eq_nil_of_le (by omega)];rfl);go_wp2;go_ret;exact⟨by rw [HN.o];rfl,by obtain⟨o,rfl⟩:=HA.o;exact(Below.refl _ _).alloc (Nat.le_refl _) o⟩
section
variable {ws:List Wd}
abbrev Fd(ws:List Wd)(pl:Nat):PS:=⟨ws.length-1,true,pl⟩
theorem J9(hl:cG ws)(h0:0<ws.length)(pl:Nat):((Fd ws pl).aU ws).aL=0:=hl _ (by show ws.length-1+1=_;omega)
theorem jB(hl:cG ws)(h0:0<ws.length)(pl:Nat)(s:List UInt8):(Fd ws pl).au ws s=Fd ws pl:=by
 unfold PS.au;rw [iA hl h0];rfl
theorem JA(hl:cG ws)(h0:0<ws.length)(pl:Nat):(Fd ws pl).bH ws=Fd ws pl:=by
 unfold PS.bH;rw [J9 hl h0];rfl
theorem Pg(hl:cG ws)(h0:0<ws.length)(pl:Nat):(Fd ws pl).dQ ws=Fd ws pl:=by
 unfold PS.dQ;rw [iA hl h0];exact jB hl h0 pl _
theorem Fm(hl:cG ws)(h0:0<ws.length)(pl:Nat):(bU ws (Fd ws pl)).2=Fd ws pl:=by
 unfold bU;simp only [JA hl h0,jB hl h0,Pg hl h0]
theorem Fo(hl:cG ws)(h0:0<ws.length)(n pl:Nat):eH ws n (Fd ws pl)=([],Fd ws pl):=by
 cases n with
 |zero=>rfl
 |succ n=>unfold eH;rw [iA hl h0];rfl
theorem JB(hl:cG ws)(h0:0<ws.length)(pl:Nat):(eI ws (Fd ws pl)).2=Fd ws pl:=by
 unfold eI;simp only [jB hl h0];rw [iA hl h0,if_neg (by simp)];show((eH ws ws.length (bU ws (Fd ws pl)).2).2.au ws [41])=_;rw [Fm hl h0,Fo hl h0];exact jB hl h0 pl _
theorem S7(hl:cG ws)(h0:0<ws.length)(ex:PS->Ex×PS)(n pl:Nat):dp ws ex n (Fd ws pl)=([],Fd ws pl):=by
 cases n with
 |zero=>rfl
 |succ n=>unfold dp;rw [iA hl h0];rfl
theorem S8(h:st.aN ws [[117,115,101]]=true):ee ws (n+1) st=((mQ ws st).1::(ee ws n (mQ ws st).2).1,(ee ws n (mQ ws st).2).2):=by
 rw [ee,if_pos h]
theorem Ph(h:st.aN ws [[117,115,101]]=false):ee ws n st=([],st):=by
 cases n with
 |zero=>rfl
 |succ n=>rw [ee,if_neg (by rw [h];simp)]
theorem S9(h:st.aN ws [[117,115,101]]=true):mQ ws st=(⟨((st.a_ ws [117,115,101]).cK ws).aX,((st.a_ ws [117,115,101]).cK ws).ai⟩,((st.a_ ws [117,115,101]).bH ws).au ws [59]):=by
 unfold mQ PS.au PS.a_;rw [h]
 rfl
theorem zJ(h:st.aN ws [[44]]=true):eH ws (n+1) st=((bU ws (st.a_ ws [44])).1::(eH ws n (bU ws (st.a_ ws [44])).2).1,(eH ws n (bU ws (st.a_ ws [44])).2).2):=by
 rw [eH,if_pos h,eA st _ h]
theorem wL(h:st.aN ws [[44]]=false):eH ws n st=([],st):=by
 cases n with
 |zero=>rfl
 |succ n=>rw [eH,if_neg (by rw [h];simp)]
theorem JC(h:st.aN ws [[112,117,98],[102,110]]=true):dp ws ex (n+1) st=((gw ws ex st).1::(dp ws ex n (gw ws ex st).2).1,(dp ws ex n (gw ws ex st).2).2):=by
 rw [dp,if_pos h]
theorem zK(h:st.aN ws [[112,117,98],[102,110]]=false):dp ws ex n st=([],st):=by
 cases n with
 |zero=>rfl
 |succ n=>rw [dp,if_neg (by rw [h];simp)]
theorem Pj(hl:cG ws)(h:st.aN ws [[112,117,98],[102,110]]=false):(st.a_ ws [112,117,98]).au ws [102,110]=st.fail ws:=by
 rw [cY,Bool.or_eq_false_iff]at h;rw [bF st _ h.1];unfold PS.au;rw [h.2];rfl
structure Dd (ws:List Wd) (ex:PS->Ex×PS) (f:iL) (r:wK):Prop where
 ag:r.ag=f.ag
 ai:r.ai=f.ai
 gW:r.gW=f.gW
 ay:r.ay=f.ay.map λx=>(x.ag,x.ai)
 aef:r.aef=f.ay.map λx=>sT x.eF
 aL:r.aL=sT f.result
 SA:(∀x∈f.ay,x.eF=1\/x.eF=2)/\(f.result=1\/f.result=2)
 lt:r.br<ws.length
 br:∃pl,f.br=(ex ⟨r.br,false,pl⟩).1/\(ex ⟨r.br,false,pl⟩).2.aH=false
end
theorem jC(h:(st.au ws t).aH=false):st.aH=false:=by
 unfold PS.au at h
 split at h
 ·exact h
 cases h
theorem yj(h:(st.bH ws).aH=false):st.aH=false/\(st.aU ws).aL=2:=by
 unfold PS.bH at h
 split at h
 ·rename_i hk;exact⟨h,hk⟩
 cases h
theorem JD(h:(st.a_ ws t).aH=false):st.aH=false:=by
 unfold PS.a_ at h
 split at h
 ·exact h
 exact h
theorem Pk(h:(st.dQ ws).aH=false):st.aH=false:=by
 unfold PS.dQ at h
 split at h
 ·exact h
 exact jC h
theorem ym(h:st.i<ws.length):st.i<=(st.bH ws).i:=by
 unfold PS.bH;split
 ·exact PS.cj h
 exact PS.rQ h
theorem De(h:st.i<ws.length):(st.bH ws).i<ws.length:=by
 unfold PS.bH;split
 ·exact PS.cB h
 exact PS.rO h
theorem fW(t:List UInt8)(h:st.i<ws.length):(st.au ws t).i<ws.length:=by
 unfold PS.au;split
 ·exact PS.cB h
 exact PS.rO h
theorem Df(t:List UInt8)(h:st.i<ws.length):(st.a_ ws t).i<ws.length:=by
 unfold PS.a_;split
 ·exact PS.cB h
 exact h
theorem Pm(h:st.i<ws.length):(st.dQ ws).i<ws.length:=by
 unfold PS.dQ;split
 ·exact PS.cB h
 exact fW _ h
theorem JE(t:List UInt8)(h:st.i<ws.length):st.i<=(st.a_ ws t).i:=by
 unfold PS.a_;split
 ·exact PS.cj h
 exact Nat.le_refl _
theorem zL(hl:cG ws)(hat:st.aN ws [t]=true)(hlt:st.i<ws.length):(st.a_ ws t).i=st.i+1:=by
 have Cw:=PS.bX hl hat hlt;rw [eA st _ hat];show min (st.i+1) (ws.length-1)=_;omega
theorem Fp(ws:List Wd)(st:PS):(bU ws st).2=((st.bH ws).au ws [58]).dQ ws:=rfl
theorem zM(h:st.i<ws.length):st.i<=(bU ws st).2.i/\(bU ws st).2.i<ws.length:=by
 rw [Fp];have h1:=De (ws:=ws) h;have h2:=fW (ws:=ws) [58] h1;have:=ym (ws:=ws) h;have:=PS.bQ (ws:=ws) [58] h1;have:=PS.uP (ws:=ws) h2;have:=Pm (ws:=ws) h2;omega
theorem Pn(h:(bU ws st).2.aH=false):st.aH=false/\(st.aU ws).aL=2/\(bU ws st).1=⟨(st.aU ws).aX,(st.aU ws).ai,((st.bH ws).au ws [58]).eF ws⟩:=by
 obtain⟨a,b⟩:=yj (jC (Pk h));refine⟨a,b,?_⟩;unfold bU PS.cK;rw [if_pos b]
def nz(ws:List Wd)(n:Nat)(st:PS):List sL×PS:=((bU ws st).1::(eH ws n (bU ws st).2).1,(eH ws n (bU ws st).2).2.au ws [41])
theorem qp(h:(st.au ws [40]).aN ws [[41]]=true):eI ws st=([],(st.au ws [40]).a_ ws [41]):=by
 unfold eI;rw [eA _ _ h];simp only [h,if_true]
theorem wM(h:(st.au ws [40]).aN ws [[41]]=false):eI ws st=nz ws ws.length (st.au ws [40]):=by
 unfold eI;simp only [h];rfl
theorem Po{n:Nat}(h:(bU ws st).2.aN ws [[44]]=true):
  nz ws (n+1) st=((bU ws st).1::(nz ws n ((bU ws st).2.a_ ws [44])).1,(nz ws n ((bU ws st).2.a_ ws [44])).2):=by
 unfold nz;rw [zJ h]
theorem BO(h:(bU ws st).2.aN ws [[44]]=false):nz ws n st=([(bU ws st).1],(bU ws st).2.au ws [41]):=by
 unfold nz;rw [wL h]
theorem Pp(hl:cG ws)(h0:0<ws.length)(n pl:Nat):(nz ws n (Fd ws pl)).2=Fd ws pl:=by
 unfold nz;rw [Fm hl h0,Fo hl h0];exact jB hl h0 pl _
theorem Sd.bad(h:Sd ws P st w)(hf:st.aH=true):∃pl,st=Fd ws pl:=by
 obtain⟨i,bad,hg,hr⟩:=h;rw [hr.BJ]at hf;exact⟨_,hr.no hf⟩
theorem Pq(hl:cG ws)(h0:0<ws.length)(n:Nat)(hn:0<n):oa ws (rd ws n).1:=by
 obtain⟨m,rfl⟩:∃m,n=m+1:=⟨n-1,by omega⟩;exact BK hl h0 _ (r8 hl h0 _ _)
theorem Sd.keep(h:Sd ws P st w)(h1:w'.heap[P.rb]?=w.heap[P.rb]?)(h2:w'.heap[P.g]?=w.heap[P.g]?):Sd ws P st w':=by
 obtain⟨i,bad,hrg,Gm⟩:=h;exact⟨i,bad,⟨h1.trans hrg.blk,hrg.row.keep h2,hrg.ne,hrg.lt,hrg.last⟩,Gm⟩
structure Fu (ws:List Wd) (P:Rp) (wr:World) (st:PS) (c:Array Value) (wx:World):Prop where
 but:eh P.rb wr wx
 sd:Sd ws P st wx
 blk:wx.heap[wr.heap.size]?=some (.cells c 262 (0,0))
 LA:P.g<P.rb
 MD:P.rb<wr.heap.size
theorem Fu.go(h:Fu ws P wr st c wx)(hb:eh P.rb wx wy)(fF:Sd ws P st' wy):Fu ws P wr st' c wy:=by
 have:=h.MD;exact⟨h.but.trans hb,fF,(hb.block _ (af h.blk) (by omega)).trans h.blk,h.LA,h.MD⟩
abbrev fn0:Array Value:=#[.string ⟨#[]⟩,.int .i64 0,.bool false,.slice none 0 0,.slice none 0 0,.int .u8 0,.int .i64 0]
theorem Fu.init(h:Sd ws P st wr)(h1:P.g<P.rb):Fu ws P wr st fn0 (wr.alloc (.cells fn0 262)):=
 ⟨(eh.refl _ _).alloc _,h.Db ((Below.refl _ _).alloc (Nat.le_refl _) _),aF _ _,h1,h.lt.1⟩
theorem Fu.alloc(h:Fu ws P wr st c wx)(o:Obj):Fu ws P wr st c (wx.alloc o):=
 h.go ((eh.refl _ _).alloc o) (h.sd.Db ((Below.refl _ _).alloc (Nat.le_refl _) o))
theorem Fu.store(h:Fu ws P wr st c wx)(o:Nat)(u:Value):Fu ws P wr st (c.setIfInBounds o u) (wx.setCell ⟨wr.heap.size,o,none⟩ u):=by
 have h1:=h.LA;have h2:=h.MD
 have hk:∀k,k<wr.heap.size->(wx.setCell ⟨wr.heap.size,o,none⟩ u).heap[k]?=wx.heap[k]?:=λk hk=>Below.heap_setCell _ _ _ _ (by show k≠wr.heap.size;omega)
 exact⟨h.but.setCell (Or.inr (Nat.le_refl _)) u,h.sd.keep (hk _ h2) (hk _ (by omega)),ax h.blk o u,h1,h2⟩
theorem Fu.other(h:Fu ws P wr st c wx)(hb:wr.heap.size<b)(o:Nat)(u:Value):Fu ws P wr st c (wx.setCell ⟨b,o,none⟩ u):=by
 have h1:=h.LA;have h2:=h.MD
 have hk:∀k,k<=wr.heap.size->(wx.setCell ⟨b,o,none⟩ u).heap[k]?=wx.heap[k]?:=λk hk=>Below.heap_setCell _ _ _ _ (by show k≠b;omega)
 exact⟨h.but.setCell (Or.inr (by show _<=b;omega)) u,h.sd.keep (hk _ (by omega)) (hk _ (by omega)),(hk _ (Nat.le_refl _)).trans h.blk,h1,h2⟩
theorem Fu.grown(h:Fu ws P wr st c wx)(hg:wx.grownBy wy r)(hr:∀k,r=some k->wr.heap.size<k):Fu ws P wr st c wy:=by
 have h1:=h.LA;have h2:=h.MD;have hs:=af h.blk
 have hk:∀k,k<=wr.heap.size->wy.heap[k]?=wx.heap[k]?:=λk hk=>hg.block k (by omega) (λe=>by have:=hr k e.symm;omega)
 exact⟨⟨hg.os.trans h.but.os,hg.tape.trans h.but.tape,hg.output.trans h.but.output,Nat.le_trans h.but.size hg.size,λk gZ hne=>(hk k (by omega)).trans (h.but.block k gZ hne)⟩,h.sd.keep (hk _ (by omega)) (hk _ (by omega)),(hk _ (Nat.le_refl _)).trans h.blk,h1,h2⟩
theorem vx{e1 e2:TypeId}(h1:w.ownsRow b1 e1 s1 v1 n1 x1)(h2:w.ownsRow b2 e2 s2 v2 n2 x2)(he:e1≠e2)(g:Nat)(hg:v1.ownBlock=some g):v2.ownBlock≠some g:=by
 intro hg2
 rcases h1.2 with⟨rfl,_⟩|⟨g1,cap,aU,rfl,_,hc,_⟩
 ·simp [Value.ownBlock]at hg
 rcases h2.2 with⟨rfl,_⟩|⟨g2,wN,ZG,rfl,_,hc2,_⟩
 ·simp [Value.ownBlock]at hg2
 simp [Value.ownBlock]at hg hg2;subst hg hg2;rw [hc]at hc2
 injection hc2 with hc2
 injection hc2 with _ h _
 exact he h
theorem dL{e1 e2:TypeId}(h1:w.ownsRow b1 e1 s1 v1 n1 x1)(h2:w.ownsRow b2 e2 s2 v2 n2 x2)(he:e1≠e2)(hg:w.grownBy w' v2.ownBlock):w'.ownsRow b1 e1 s1 v1 n1 x1:=
 aM h1 λg e=>hg.block g (aQ h1 g e).2 (λe2=>vx h1 h2 he g e e2.symm)
def j_(lo:Nat)(w:World)(xs:List Value)(fs:List wK):Prop:=
 ∀j (h:j<fs.length),∃pv kv,(∀o,o<7->xs[j*7+o]?=(r9 fs[j] pv kv)[o]?)/\w.ownsRow lo 260 2 pv fs[j].ay.length (cD fs[j].ay)/\w.ownsRow lo 5 1 kv fs[j].aef.length (fs[j].aef.map λ(k:Nat)=> .int .u8 k)
theorem j_.row(h:j_ lo w xs fs)(ho:w.ownsRow lo 262 7 v fs.length xs):uf lo w v fs:=⟨xs,ho,h⟩
theorem j_.nil(lo:Nat)(w:World)(xs:List Value):j_ lo w xs []:=λj h=>absurd h (by simp)
theorem j_.but{pb:Nat}(h:j_ lo w xs fs)(hb:eh pb w w')(hp:pb<lo):j_ lo w' xs fs:=λj hj=>by
 obtain⟨pv,kv,a,b,c⟩:=h j hj;exact⟨pv,kv,a,bW b hb hp,bW c hb hp⟩
theorem j_.set(h:j_ lo w xs fs)(hp:b<lo)(o:Nat)(u:Value):j_ lo (w.setCell ⟨b,o,none⟩ u) xs fs:=λj hj=>by
 obtain⟨pv,kv,a,b,c⟩:=h j hj;exact⟨pv,kv,a,bK b hp,bK c hp⟩
theorem j_.app{f:wK}{pv kv:Value}(h:j_ lo w xs fs)(ho:w.ownsRow lo 262 7 v n ys)(hg:w.grownBy w' v.ownBlock)(hl:xs.length=fs.length*7)(h1:w.ownsRow lo 260 2 pv f.ay.length (cD f.ay))(h2:w.ownsRow lo 5 1 kv f.aef.length (f.aef.map λ(k:Nat)=> .int .u8 k)):j_ lo w' (xs++r9 f pv kv) (fs++ [f]):=λj hj=>by
 have k1:∀{pv:Value} {n:Nat} {ys:List Value},w.ownsRow lo 260 2 pv n ys->w'.ownsRow lo 260 2 pv n ys:=λh=>dL h ho (by decide) hg
 have k2:∀{pv:Value} {n:Nat} {ys:List Value},w.ownsRow lo 5 1 pv n ys->w'.ownsRow lo 5 1 pv n ys:=λh=>dL h ho (by decide) hg
 by_cases hlt:j<fs.length
 ·obtain⟨p,k,a,b,c⟩:=h j hlt
  refine⟨p,k,λo ho=> ?_,?_,?_⟩
  ·rw [List.getElem_append_left hlt,<-a o ho,List.getElem?_append_left (by omega)]
  ·rw [List.getElem_append_left hlt];exact k1 b
  ·rw [List.getElem_append_left hlt];exact k2 c
 ·have LB:j=fs.length:=by simp at hj;omega
  subst LB;refine⟨pv,kv,λo ho=> ?_,?_,?_⟩
  ·rw [List.getElem?_append_right (by omega)]
   simp [hl]
  ·simpa using k1 h1
  ·simpa using k2 h2
theorem Dh(ws:List Wd)(ex:PS->Ex×PS)(st:PS):(gw ws ex st).2=((ex (((((eI ws (((st.a_ ws [112,117,98]).au ws [102,110]).bH ws)).2).au ws [58]).dQ ws).au ws [61])).2).au ws [59]:=rfl
theorem LC(hl:cG ws)(h0:0<ws.length)(hst:oa ws ex)(h:st.aN ws [[112,117,98],[102,110]]=false):(gw ws ex st).2=st.fail ws:=by
 rw [Dh,Pj hl h];obtain⟨pl,e⟩:∃pl,st.fail ws=Fd ws pl:=⟨_,rfl⟩;rw [e,JA hl h0,JB hl h0,jB hl h0,Pg hl h0,jB hl h0];rw [show ex (Fd ws pl)=((ex (Fd ws pl)).1,Fd ws pl)from Prod.ext rfl (hst pl)];exact jB hl h0 pl _
theorem Fq{ws:List Wd}:∀(n:Nat) (st:PS),st.i<ws.length->st.i<=(eH ws n st).2.i/\(eH ws n st).2.i<ws.length
 |0,st,h=>⟨Nat.le_refl _,h⟩
 |n+1,st,h=>by
  rcases hat:st.aN ws [[44]]with _|_
  ·rw [wL hat];exact⟨Nat.le_refl _,h⟩
  ·rw [zJ hat]
   have h1:=JE (ws:=ws) [44] h;have h2:=Df (ws:=ws) [44] h;have h3:=zM (ws:=ws) h2;have h4:=Fq n _ h3.2;exact⟨by show st.i<=(eH ws n (bU ws (st.a_ ws [44])).2).2.i;omega,h4.2⟩
theorem SB(h:st.i<ws.length):st.i<=(eI ws st).2.i/\(eI ws st).2.i<ws.length:=by
 have h1:=PS.bQ (ws:=ws) [40] h;have h2:=fW (ws:=ws) [40] h
 rcases hat:(st.au ws [40]).aN ws [[41]]with _|_
 ·rw [wM hat]
  have h3:=zM (ws:=ws) h2;have h4:=Fq (ws:=ws) ws.length _ h3.2;have h5:=PS.bQ (ws:=ws) [41] h4.2;have h6:=fW (ws:=ws) [41] h4.2;unfold nz;exact⟨by show st.i<=(PS.au ws (eH ws ws.length (bU ws (st.au ws [40])).2).2 [41]).i;omega,h6⟩
 rw [qp hat];have h3:=JE (ws:=ws) [41] h2;have h4:=Df (ws:=ws) [41] h2;exact⟨by show st.i<=((st.au ws [40]).a_ ws [41]).i;omega,h4⟩
theorem Wz(hl:cG ws)(hlt:st.i<ws.length)(hat:st.aN ws [[112,117,98],[102,110]]=true)(hex:∀s:PS,s=((((eI ws (((st.a_ ws [112,117,98]).au ws [102,110]).bH ws)).2).au ws [58]).dQ ws).au ws [61]->s.i<=(ex s).2.i/\(ex s).2.i<ws.length):st.i+1<=(gw ws ex st).2.i:=by
 have a1:=Df (ws:=ws) [112,117,98] hlt;have a2:=fW (ws:=ws) [102,110] a1;have a3:=De (ws:=ws) a2;have a4:=SB (ws:=ws) a3;have a5:=fW (ws:=ws) [58] a4.2;have a6:=Pm (ws:=ws) a5;have a7:=fW (ws:=ws) [61] a6;have b2:=PS.bQ (ws:=ws) [102,110] a1;have b3:=ym (ws:=ws) a2;have b5:=PS.bQ (ws:=ws) [58] a4.2;have b6:=PS.uP (ws:=ws) a5;have b7:=PS.bQ (ws:=ws) [61] a6;have b8:=hex _ rfl;have b9:=PS.bQ (ws:=ws) [59] b8.2
 have h2:st.i+1<=((st.a_ ws [112,117,98]).au ws [102,110]).i:=by
  rcases hp:st.aN ws [[112,117,98]]with _|_
  ·rw [cY,hp]at hat
   rw [bF st _ hp]
   have hat:st.aN ws [[102,110]]=true:=by simpa using hat
   have:=zL hl hat hlt;unfold PS.au;rw [hat,if_pos rfl,<-eA st _ hat];omega
  ·have:=zL hl hp hlt
   omega
 rw [Dh];omega
def cW(S:Nat->Prop)(w:World)(t:TypeId)(size:Nat)(v:Value)(n:Nat)(xs:List Value):Prop:=w.ownsRow 0 t size v n xs/\∀g,v.ownBlock=some g->S g
theorem cW.keep{t:TypeId}(h:cW S w t size v n xs)(hk:∀k,S k->k<w.heap.size->S' k/\w'.heap[k]?=w.heap[k]?):cW S' w' t size v n xs:=
 ⟨aM h.1 λg e=>(hk g (h.2 g e) (aQ h.1 g e).2).2,λg e=>(hk g (h.2 g e) (aQ h.1 g e).2).1⟩
theorem cW.of{t:TypeId}(h:w.ownsRow lo t size v n xs):cW (λk=>lo<=k/\k<w.heap.size) w t size v n xs:=
 ⟨cI h (Nat.zero_le _),λg e=>aQ h g e⟩
structure RM where
 ws:List Wd
 bad:Bool
 ai:Nat
 aq:List lu
 aR:List wK
variable{m:RM}{l:List (List UInt8×RM)}
def kO(S:Nat->Prop)(w:World)(v:Value)(fs:List wK):Prop:=∃xs,cW S w 262 7 v fs.length xs/\
 ∀j (h:j<fs.length),∃pv kv,(∀o,o<7->xs[j*7+o]?=(r9 fs[j] pv kv)[o]?)/\cW S w 260 2 pv fs[j].ay.length (cD fs[j].ay)/\cW S w 5 1 kv fs[j].aef.length (fs[j].aef.map λ(k:Nat)=> .int .u8 k)
theorem kO.keep(h:kO S w v fs)(hk:∀k,S k->k<w.heap.size->S' k/\w'.heap[k]?=w.heap[k]?):kO S' w' v fs:=by
 obtain⟨xs,a,b⟩:=h;exact⟨xs,a.keep hk,λj hj=>by obtain⟨pv,kv,c,d,e⟩:=b j hj;exact⟨pv,kv,c,d.keep hk,e.keep hk⟩⟩
theorem kO.row(h:kO S w v fs):uf 0 w v fs:=by
 obtain⟨xs,a,b⟩:=h;exact⟨xs,a.1,λj hj=>by obtain⟨pv,kv,c,d,e⟩:=b j hj;exact⟨pv,kv,c,d.1,e.1⟩⟩
theorem uf.toS(h:uf lo w v fs):kO (λk=>lo<=k/\k<w.heap.size) w v fs:=by
 obtain⟨xs,a,b⟩:=h;exact⟨xs,cW.of a,λj hj=>by obtain⟨pv,kv,c,d,e⟩:=b j hj;exact⟨pv,kv,c,cW.of d,cW.of e⟩⟩
structure jr (S:Nat->Prop) (w:World) (lv iv fv:Value) (m:RM):Prop where
 sh:(∃o n c,lv=.slice o n c)/\(∃o n c,iv=.slice o n c)/\(∃o n c,fv=.slice o n c)
 ok:m.bad=false->(∃g cap,lv=.slice (some ⟨g,0,none⟩) m.ws.length cap/\S g/\lT g (m.ws.map dV) w)/\cW S w 260 2 iv m.aq.length (m.aq.flatMap dI)/\kO S w fv m.aR
theorem lT.lt{ws:List qH}(h:lT g ws w):g<w.heap.size:=by
 obtain⟨aU,hc,_⟩:=h.row;exact af hc
theorem jr.keep{lv iv fv:Value}(h:jr S w lv iv fv m)(hk:∀k,S k->k<w.heap.size->S' k/\w'.heap[k]?=w.heap[k]?):jr S' w' lv iv fv m:=by
 refine⟨h.sh,λhb=> ?_⟩;obtain⟨⟨g,cap,a,b,c⟩,d,e⟩:=h.ok hb;have hg:=c.lt;exact⟨⟨g,cap,a,(hk g b hg).1,c.keep (hk g b hg).2⟩,d.keep hk,e.keep hk⟩
def vy(x:List UInt8×RM)(lv iv fv:Value):List Value:= [.string ⟨x.1.toArray⟩,lv,iv,fv,.bool x.2.bad,.int .i64 x.2.ai]
def eL(S:Nat->Prop)(w:World)(v:Value)(l:List (List UInt8×RM)):Prop:=∃xs,cW S w 251 6 v l.length xs/\
 ∀j (h:j<l.length),∃lv iv fv,(∀o,o<6->xs[j*6+o]?=(vy l[j] lv iv fv)[o]?)/\jr S w lv iv fv l[j].2
theorem eL.keep(h:eL S w v l)(hk:∀k,S k->k<w.heap.size->S' k/\w'.heap[k]?=w.heap[k]?):eL S' w' v l:=by
 obtain⟨xs,a,b⟩:=h;exact⟨xs,a.keep hk,λj hj=>by obtain⟨lv,iv,fv,c,d⟩:=b j hj;exact⟨lv,iv,fv,c,d.keep hk⟩⟩
theorem bZ{base:Nat}{t:TypeId}(h:w.ownsRow base t size v n xs):
  (v=.slice none 0 0/\n=0)\/∃g cap,v=.slice (some ⟨g,0,none⟩) n cap/\base<=g/\g<w.heap.size/\n<=maxLen/\(∀j,j<n*size->w.cell? ⟨g,j,none⟩=xs[j]?)/\v.ownBlock=some g:=by
 rcases h.2 with⟨rfl,h0⟩|⟨g,cap,aU,rfl,hb,aed,vJ,hcm,hcs,iX⟩
 ·exact Or.inl ⟨rfl,h0⟩
 refine Or.inr ⟨g,cap,rfl,hb,af aed,by omega,λj hj=> ?_,rfl⟩;rw [ae aed,<-iX,List.getElem?_take,if_pos hj];simp
theorem eL.cells(h:eL S w v l):(v=.slice none 0 0/\l= [])\/∃g cap,v=.slice (some ⟨g,0,none⟩) l.length cap/\g<w.heap.size/\l.length<=maxLen/\S g/\
  ∀j (h:j<l.length),∃lv iv fv,w.cell? ⟨g,j*6,none⟩=some (.string ⟨l[j].1.toArray⟩)/\w.cell? ⟨g,j*6+1,none⟩=some lv/\w.cell? ⟨g,j*6+2,none⟩=some iv/\w.cell? ⟨g,j*6+3,none⟩=some fv/\w.cell? ⟨g,j*6+4,none⟩=some (.bool l[j].2.bad)/\w.cell? ⟨g,j*6+5,none⟩=some (.int .i64 l[j].2.ai)/\jr S w lv iv fv l[j].2:=by
 obtain⟨xs,ho,hx⟩:=h
 rcases bZ ho.1 with⟨rfl,h0⟩|⟨g,cap,rfl,hb,hlt,gO,hc,he⟩
 ·exact Or.inl ⟨rfl,List.eq_nil_of_length_eq_zero h0⟩
 refine Or.inr ⟨g,cap,rfl,hlt,gO,ho.2 g he,λj hj=> ?_⟩;obtain⟨lv,iv,fv,a,b⟩:=hx j hj
 have hc':∀o,o<6->w.cell? ⟨g,j*6+o,none⟩=(vy l[j] lv iv fv)[o]?:=λo ho=>(hc _ (by omega)).trans (a o ho)
 exact⟨lv,iv,fv,hc' 0 (by omega),hc' 1 (by omega),hc' 2 (by omega),hc' 3 (by omega),hc' 4 (by omega),hc' 5 (by omega),b⟩
theorem zN{ws:List Wd}:∀(n:Nat) (st:PS),∀x∈(eH ws n st).1,x.eF=1\/x.eF=2
 |0,st=>λx hx=>by cases hx
 |n+1,st=>λx hx=>by
  rcases hat:st.aN ws [[44]]with _|_
  ·rw [wL hat]at hx;cases hx
  ·rw [zJ hat]at hx
   rcases List.mem_cons.1 hx with rfl|hx
   ·exact rX _
   ·exact zN n _ x hx
theorem LD:∀x∈(eI ws st).1,x.eF=1\/x.eF=2:=λx hx=>by
 rcases hat:(st.au ws [40]).aN ws [[41]]with _|_
 ·rw [wM hat]at hx
  rcases List.mem_cons.1 hx with rfl|hx
  ·exact rX _
  ·exact zN _ _ x hx
 ·rw [qp hat]at hx;cases hx
theorem W4(hl:cG ws)(h0:0<ws.length)(hst:oa ws ex){s3 s6:PS}{y1:qH}{i6:Nat}{SC:Bool}(hs3:s3=((s.a_ ws [112,117,98]).au ws [102,110]).bH ws)(hb3:s3.aH=true->∃p,s3=Fd ws p)(hy:(((s.a_ ws [112,117,98]).au ws [102,110]).aU ws).aL=2->y1=dV (((s.a_ ws [112,117,98]).au ws [102,110]).aU ws))(xV:(eI ws s3).2=s')(Gi:s'.aH=false->(eI ws s3).1=pl)(hk:((s'.au ws [58]).dQ ws).aH=false->kk=sT ((s'.au ws [58]).eF ws))(pK:s6=((s'.au ws [58]).dQ ws).au ws [61])(hr:Rl ws s6 i6 SC)(hf:(gw ws ex s).2.aH=false):
  s'.aH=false/\Dd ws ex (gw ws ex s).1 ⟨y1.aX,y1.ai,s.aN ws [[112,117,98]],pl.map λx=>(x.ag,x.ai),pl.map λx=>sT x.eF,kk,i6⟩:=by
 have S0:=Dh ws ex s;rw [<-hs3,xV,<-pK]at S0;rw [S0]at hf;have f6:=jC hf
 have g6:s6.aH=false:=by
  rcases hb:SC with _|_
  ·rw [hr.BJ,hb]
  ·rw [hr.no hb,hst]at f6
   cases f6
 have g5:((s'.au ws [58]).dQ ws).aH=false:=by rw [pK]at g6;exact jC g6
 have g4:s'.aH=false:=jC (Pk g5)
 have g3:s3.aH=false:=by
  rcases hb:s3.aH with _|_
  ·rfl
  ·obtain⟨p,e⟩:=hb3 hb
   rw [<-xV,e,JB hl h0]at g4
   cases g4
 obtain⟨g2,gk⟩:=yj (by rw [hs3]at g3;exact g3);have hy:=hy gk;have hpl:=Gi g4;have xZ:=hk g5;refine⟨g4,?_⟩
 have e1:(gw ws ex s).1=⟨(((s.a_ ws [112,117,98]).au ws [102,110]).cK ws).aX,(((s.a_ ws [112,117,98]).au ws [102,110]).cK ws).ai,s.aN ws [[112,117,98]],pl,(s'.au ws [58]).eF ws,(ex s6).1⟩:=by
  rw [<-hpl,pK,<-xV,hs3];rfl
 have e2:((s.a_ ws [112,117,98]).au ws [102,110]).cK ws=((s.a_ ws [112,117,98]).au ws [102,110]).aU ws:=by unfold PS.cK;rw [if_pos gk]
 rw [e1,e2];refine⟨by rw [hy];rfl,by rw [hy];rfl,rfl,rfl,rfl,xZ,⟨λx hx=> ?_,rX _⟩,hr.lt,s6.ai,?_⟩
 ·rw [<-hpl]at hx;exact LD x hx
 have hb:SC=false:=by rw [<-hr.BJ];exact g6
 have e6:s6=⟨i6,false,s6.ai⟩:=by
  obtain⟨a,b⟩:=hr.ok hb
  cases s6;simp only at a b;subst a b;rfl
 exact⟨by rw [<-e6],by rw [<-e6];exact f6⟩
theorem W5(w:World)(a0 a1 a2 a3 a4 a5 a6:Value)(t:TypeId):∀j u,[a0,a1,a2,a3,a4,a5,a6][j]?=some u->(w.alloc (.cells #[a0,a1,a2,a3,a4,a5,a6] t)).cell? ((⟨w.heap.size,0,none⟩:Addr).add j)=some u:=by
 intro j u hj
 match j,hj with
 |0,hj=>simp at hj;subst hj;simp [Addr.add]
 |1,hj=>simp at hj;subst hj;simp [Addr.add]
 |2,hj=>simp at hj;subst hj;simp [Addr.add]
 |3,hj=>simp at hj;subst hj;simp [Addr.add]
 |4,hj=>simp at hj;subst hj;simp [Addr.add]
 |5,hj=>simp at hj;subst hj;simp [Addr.add]
 |6,hj=>simp at hj;subst hj;simp [Addr.add]
theorem abV{a0 a1 a2 a3 a4 a5 a6:Value}(h0:a0.oneCell'=true)(h1:a1.oneCell'=true)(h2:a2.oneCell'=true)(h3:a3.oneCell'=true)(h4:a4.oneCell'=true)(h5:a5.oneCell'=true)(h6:a6.oneCell'=true):∀u∈ [a0,a1,a2,a3,a4,a5,a6],u.oneCell'=true:=by
 intro u hu;simp only [List.mem_cons,List.not_mem_nil,or_false]at hu
 rcases hu with rfl|rfl|rfl|rfl|rfl|rfl|rfl<;>assumption
theorem SD:(prog.info? 5).map (λi=>(i.zero,i.size,i.bytes))=some (some (.int .u8 0),1,1):=by kernel_rfl
theorem Ii(ha:a.oneCell'=true):∀u∈ [a],u.oneCell'=true:=by
 intro u hu;simp only [List.mem_cons,List.not_mem_nil,or_false]at hu;subst hu;exact ha
theorem Pr(w:World)(o:Obj)(b i j:Nat)(u v:Value):(((w.setCell ⟨b,i,none⟩ u).setCell ⟨b,j,none⟩ v).alloc o).heap[w.heap.size]?=some o:=by
 have h:=aF ((w.setCell ⟨b,i,none⟩ u).setCell ⟨b,j,none⟩ v) o
 have e:((w.setCell ⟨b,i,none⟩ u).setCell ⟨b,j,none⟩ v).heap.size=w.heap.size:=by simp [World.setCell]
 rw [e]at h;exact h
theorem Ps(w:World)(p:Addr)(u a:Value)(t:TypeId):∀j x,[a][j]?=some x->((w.setCell p u).alloc (.cells #[a] t)).cell? ((⟨w.heap.size,0,none⟩:Addr).add j)=some x:=by
 have h:=pU (w.setCell p u) a t
 have e:(w.setCell p u).heap.size=w.heap.size:=by simp [World.setCell]
 rw [e]at h;exact h
theorem JF{k1:Nat}{y2:qH}(h:s'.aH=false->k1=pl.length/\x1=cD (pl.map λx=>(x.ag,x.ai))/\ys=(pl.map λx=>sT x.eF).map λ(k:Nat)=> .int .u8 k)(hy:(s'.aU ws).aL=2->y2=dV (s'.aU ws))(hk:(((s'.bH ws).au ws [58]).dQ ws).aH=false->kk=sT (((s'.bH ws).au ws [58]).eF ws))(hf:(bU ws s').2.aH=false):
  k1+1=(pl++ [(bU ws s').1]).length/\x1++ [.string ⟨y2.aX.toArray⟩,.int .i64 y2.ai]=cD ((pl++ [(bU ws s').1]).map λx=>(x.ag,x.ai))/\ys++ [.int .u8 kk]=((pl++ [(bU ws s').1]).map λx=>sT x.eF).map λ(k:Nat)=> .int .u8 k:=by
 obtain⟨a,b,c⟩:=Pn hf;obtain⟨e1,e2,e3⟩:=h a;have e4:=hy b;have e5:=hk hf;subst e1 e2 e3 e4 e5;refine⟨by simp,?_,?_⟩
 ·rw [c];simp [cD,dV]
 rw [c];simp
theorem ug:(prog.info? 260).map (λi=>(i.zero,i.size,i.bytes))=some (some (.agg #[.string ⟨#[]⟩,.int .i64 0]),2,24):=by kernel_rfl
theorem LF:(prog.info? 262).map (λi=>(i.zero,i.size,i.bytes))=some (some (.agg #[.string ⟨#[]⟩,.int .i64 0,.bool false,.slice none 0 0,.slice none 0 0,.int .u8 0,.int .i64 0]),7,96):=by kernel_rfl
structure Rm (ws:List Wd) (P:Rp) (w:World) (mb:Nat) (st:PS) (iv fv:Value) (wr:World):Prop where
 dB:Below w.heap.size w wr
 sd:Sd ws P st wr
 blk:wr.heap[mb]?=some (.cells #[.slice (some ⟨P.g,0,none⟩) ws.length P.cap,iv,fv,.bool false,.int .i64 0] 249 (0,0))
 LA:w.heap.size<P.g
 MD:P.g<P.rb
 lo3:P.rb<mb
 res:wr.heap[w.heap.size]?=some (.cells #[.slice none 0 0,.slice none 0 0,.slice none 0 0,.bool false,.int .i64 0] 249 (0,0))
theorem Pt(hl:cG ws)(hat:st.aN ws [[117,115,101]]=true)(hlt:st.i<ws.length):
  (mQ ws st).2=((st.a_ ws [117,115,101]).bH ws).au ws [59]/\st.i+1<=(mQ ws st).2.i/\
   ((mQ ws st).2.aH=false->st.aH=false/\((st.a_ ws [117,115,101]).aU ws).aL=2/\(mQ ws st).1=⟨((st.a_ ws [117,115,101]).aU ws).aX,((st.a_ ws [117,115,101]).aU ws).ai⟩):=by
 have Cw:=PS.bX hl hat hlt;have e:=S9 hat
 have e2:(mQ ws st).2=((st.a_ ws [117,115,101]).bH ws).au ws [59]:=by rw [e]
 have hn:(st.a_ ws [117,115,101]).i=st.i+1:=by
  rw [eA st _ hat];show min (st.i+1) (ws.length-1)=_;omega
 have pY:(st.a_ ws [117,115,101]).i<ws.length:=by omega
 have kP:((st.a_ ws [117,115,101]).bH ws).i<ws.length:=by
  unfold PS.bH;split
  ·show min _ _<_;omega
  ·show ws.length-1<_;omega
 refine⟨e2,?_,λhf=> ?_⟩
 ·rw [e2]
  have:=ym pY;have:=PS.bQ (t:= [59]) (ws:=ws) kP;omega
 rw [e2]at hf;obtain⟨f1,f2⟩:=yj (jC hf);refine⟨JD f1,f2,?_⟩;rw [e];show lu.mk _ _=_;unfold PS.cK;rw [if_pos f2]
def rA(ws:List Wd)(ex:PS->Ex×PS)(n:Nat)(st:PS):PS:=if((dp ws ex n st).2.aU ws).aL=0 then(dp ws ex n st).2 else(dp ws ex n st).2.fail ws
theorem Pu(ws:List Wd)(ex:PS->Ex×PS)(st:PS):(mR ws ex st).2=rA ws ex ws.length (ee ws ws.length st).2:=rfl
theorem SE(h:st.aN ws [[112,117,98],[102,110]]=true):rA ws ex (n+1) st=rA ws ex n (gw ws ex st).2:=by
 unfold rA;rw [JC h]
theorem JG(hl:cG ws)(h0:0<ws.length)(n pl:Nat):rA ws ex n (Fd ws pl)=Fd ws pl:=by
 unfold rA;rw [S7 hl h0];rw [if_pos (J9 hl h0 pl)]
theorem LG(h:st.aN ws [[112,117,98],[102,110]]=false)(hk:(st.aU ws).aL≠0):rA ws ex n st=st.fail ws:=by
 unfold rA;rw [zK h,if_neg hk]
theorem LH(hk:(st.aU ws).aL=0):rA ws ex n st=st:=by
 have h:st.aN ws [[112,117,98],[102,110]]=false:=by unfold PS.aN;rw [hk];rfl
 unfold rA;rw [zK h,if_pos hk]
theorem Pv(w:World)(a b:Value)(t:TypeId):∀j u,[a,b][j]?=some u->(w.alloc (.cells #[a,b] t)).cell? ((⟨w.heap.size,0,none⟩:Addr).add j)=some u:=by
 intro j u hj
 match j,hj with
 |0,hj=>simp at hj;subst hj;simp [Addr.add]
 |1,hj=>simp at hj;subst hj;simp [Addr.add]
theorem aaf{b:Value}(ha:a.oneCell'=true)(hb:b.oneCell'=true):∀u∈ [a,b],u.oneCell'=true:=by
 intro u hu;simp only [List.mem_cons,List.not_mem_nil,or_false]at hu
 rcases hu with rfl|rfl<;>assumption
theorem Rm.go(h:Rm ws P w mb st iv fv wr)(hb:eh P.rb wr w')(fF:Sd ws P st' w'):Rm ws P w mb st' iv fv w':=by
 have h1:=h.LA;have h2:=h.MD;have h3:=h.lo3;have hs:=h.dB.size;exact⟨h.dB.trans ⟨hb.os,hb.tape,hb.output,hb.size,λk hk=>hb.block k (by omega) (by omega)⟩,fF,(hb.block mb (af h.blk) (by omega)).trans h.blk,h1,h2,h3,(hb.block _ (af h.res) (by omega)).trans h.res⟩
theorem Rm.grown(h:Rm ws P w mb st iv fv wr)(hg:wr.grownBy w' r)(hr:∀k,r=some k->mb<k):Rm ws P w mb st iv fv w':=by
 have h1:=h.LA;have h2:=h.MD;have h3:=h.lo3;have hs:=h.dB.size;have hm:=af h.blk
 have hk:∀k,k<=mb->w'.heap[k]?=wr.heap[k]?:=λk hk=>hg.block k (by omega) (λe=>by have:=hr k e.symm;omega)
 obtain⟨i,bad,hrg,Gm⟩:=h.sd;exact⟨h.dB.trans ⟨hg.os,hg.tape,hg.output,hg.size,λk gZ=>hk k (by omega)⟩,⟨i,bad,⟨(hk _ (by omega)).trans hrg.blk,hrg.row.keep (hk _ (by omega)),hrg.ne,hrg.lt,hrg.last⟩,Gm⟩,(hk _ (Nat.le_refl _)).trans h.blk,h1,h2,h3,(hk _ (by omega)).trans h.res⟩
theorem Rm.W6(h:Rm ws P w mb st iv fv wr)(u:Value):Rm ws P w mb st u fv (wr.setCell ⟨mb,1,none⟩ u):=by
 have h1:=h.LA;have h2:=h.MD;have h3:=h.lo3
 have hk:∀k,k<mb->(wr.setCell ⟨mb,1,none⟩ u).heap[k]?=wr.heap[k]?:=λk hk=>Below.heap_setCell _ _ _ _ (by show k≠mb;omega)
 obtain⟨i,bad,hrg,Gm⟩:=h.sd;have hs:=h.dB.size;exact⟨h.dB.setCell (by show w.heap.size<=mb;omega) u,⟨i,bad,⟨(hk _ (by omega)).trans hrg.blk,hrg.row.keep (hk _ (by omega)),hrg.ne,hrg.lt,hrg.last⟩,Gm⟩,ax h.blk 1 u,h1,h2,h3,(hk _ (by omega)).trans h.res⟩
theorem Rm.W7(h:Rm ws P w mb st iv fv wr)(u:Value):Rm ws P w mb st iv u (wr.setCell ⟨mb,2,none⟩ u):=by
 have h1:=h.LA;have h2:=h.MD;have h3:=h.lo3
 have hk:∀k,k<mb->(wr.setCell ⟨mb,2,none⟩ u).heap[k]?=wr.heap[k]?:=λk hk=>Below.heap_setCell _ _ _ _ (by show k≠mb;omega)
 obtain⟨i,bad,hrg,Gm⟩:=h.sd;have hs:=h.dB.size;exact⟨h.dB.setCell (by show w.heap.size<=mb;omega) u,⟨i,bad,⟨(hk _ (by omega)).trans hrg.blk,hrg.row.keep (hk _ (by omega)),hrg.ne,hrg.lt,hrg.last⟩,Gm⟩,ax h.blk 2 u,h1,h2,h3,(hk _ (by omega)).trans h.res⟩
theorem Rm.init{w2:World}{g cap:Nat}(h0:0<ws.length)(hl:cG ws)(hb:Below (w.alloc (.cells #[.slice none 0 0,.slice none 0 0,.slice none 0 0,.bool false,.int .i64 0] 249)).heap.size (w.alloc (.cells #[.slice none 0 0,.slice none 0 0,.slice none 0 0,.bool false,.int .i64 0] 249)) w2)(hr:lT g (ws.map dV) w2)(hg:w.heap.size+1<=g):
  Rm ws ⟨w2.heap.size,g,cap⟩ w (w2.heap.size+1) ⟨0,false,0⟩ (.slice none 0 0) (.slice none 0 0)
   ((w2.alloc (.cells #[.slice (some ⟨g,0,none⟩) ws.length cap,.int .i64 0,.bool false] 328)).alloc (.cells #[.slice (some ⟨g,0,none⟩) ws.length cap,.slice none 0 0,.slice none 0 0,.bool false,.int .i64 0] 249)):=by
 have hs:=hb.size;simp at hs;obtain⟨aU,hc,_⟩:=hr.row;have eP:=af hc;have hb0:Below w.heap.size w w2:=((Below.refl w.heap.size w).alloc (Nat.le_refl _) _).trans (hb.mono (by simp));have hb1:=(hb0.alloc hb0.size (.cells #[.slice (some ⟨g,0,none⟩) ws.length cap,.int .i64 0,.bool false] 328));refine⟨hb1.alloc hb1.size _,⟨0,false,⟨?_,?_,?_,?_,?_⟩,⟨h0,λ_=>⟨rfl,rfl⟩,λe=>by cases e⟩⟩,?_,by show w.heap.size<g;omega,eP,Nat.lt_succ_self _,?_⟩
 ·rw [List.length_map];exact aI (aF w2 _) _
 ·exact hr.keep ((Below.heap_alloc _ _ _ (by simp;omega)).trans (Below.heap_alloc _ _ _ eP))
 ·show g≠w2.heap.size;omega
 ·simpa using h0
 ·intro h
  have:=hl ⟨ws.length-1,false,0⟩ (by show ws.length-1+1=_;omega);simp only [List.length_map]at h⊢;rw [List.getElem_map]
  have e:ws[ws.length-1]=(⟨ws.length-1,false,0⟩:PS).aU ws:=by simp [PS.aU,List.getD,h]
  rw [e];unfold dV;rw [this];rfl
 ·have:=aF (w2.alloc (.cells #[.slice (some ⟨g,0,none⟩) ws.length cap,.int .i64 0,.bool false] 328)) (.cells #[.slice (some ⟨g,0,none⟩) ws.length cap,.slice none 0 0,.slice none 0 0,.bool false,.int .i64 0] 249)
  simpa using this
 exact(Below.heap_alloc _ _ _ (by simp;omega)).trans ((Below.heap_alloc _ _ _ (by omega)).trans ((hb.block _ (by simp)).trans (aF w _)))
def lC(ws:List Wd)(ex:PS->Ex×PS)(fl:List iL)(rl:List wK):Prop:=fl.length=rl.length/\∀j (h1:j<fl.length) (h2:j<rl.length),Dd ws ex fl[j] rl[j]
theorem lC.nil(ws:List Wd)(ex:PS->Ex×PS):lC ws ex [] []:=⟨rfl,λj h=>absurd h (by simp)⟩
theorem lC.app(h:lC ws ex fl rl){f:iL}{r:wK}(hf:Dd ws ex f r):lC ws ex (fl++ [f]) (rl++ [r]):=by
 refine⟨by simp [h.1],λj h1 h2=> ?_⟩;have e:=h.1
 by_cases hj:j<fl.length
 ·rw [List.getElem_append_left hj,List.getElem_append_left (by omega)]
  exact h.2 j hj (by omega)
 have:j=fl.length:=by simp at h1;omega
 subst this;rw [List.getElem_append_right (by omega),List.getElem_append_right (by omega)];simpa using hf
theorem Pw(hl:cG ws)(h0:0<ws.length)(hst:oa ws ex)(hlt:s.i<ws.length)(hk:(s.aU ws).aL≠0)(jh:s.rem ws<n)(dG:∀t:PS,t=((((eI ws (((s.a_ ws [112,117,98]).au ws [102,110]).bH ws)).2).au ws [58]).dQ ws).au ws [61]->t.i<=(ex t).2.i/\(ex t).2.i<ws.length):
  rA ws ex n s=rA ws ex (n-1) (gw ws ex s).2/\(gw ws ex s).2.rem ws<n-1/\((gw ws ex s).2.aH=false->(dp ws ex n s).1=(gw ws ex s).1::(dp ws ex (n-1) (gw ws ex s).2).1):=by
 have hi:=PS.fM hl hk hlt;obtain⟨m,rfl⟩:∃m,n=m+1:=⟨n-1,by omega⟩
 rcases hat:s.aN ws [[112,117,98],[102,110]]with _|_
 ·rw [LC hl h0 hst hat]
  refine⟨?_,?_,λh=>by cases h⟩
  ·rw [LG hat hk];exact(JG hl h0 _ _).symm
  ·simp only [PS.rem,PS.fail]at jh⊢;omega
 have:=Wz hl hlt hat dG;refine⟨SE hat,?_,λ_=> ?_⟩
 ·simp only [PS.rem]at jh⊢;omega
 rw [JC hat];rfl
structure zO (a b:Nat) (w w':World):Prop where
 os:w'.os=w.os
 tape:w'.tape=w.tape
 output:w'.output=w.output
 size:w'.heap.size=w.heap.size
 block:∀k,k≠a->k≠b->w'.heap[k]?=w.heap[k]?
theorem zO.Uk(a b:Nat)(w:World)(n:Nat):zO a b w (w.drewN n):=⟨rfl,rfl,rfl,rfl,λ_ _ _=>rfl⟩
theorem zO.drew{a:Nat}(h:zO a b w w'):zO a b w w'.drew:=⟨h.os,h.tape,h.output,h.size,h.block⟩
theorem zO.set{a:Nat}(h:zO a b w w'){c:Nat}(hc:c=a\/c=b)(o:Nat)(u:Value):zO a b w (w'.setCell ⟨c,o,none⟩ u):=
 ⟨h.os,h.tape,h.output,by have:=h.size;simpa [World.setCell]using this,λk h1 h2=>(Below.heap_setCell _ _ _ _ (by show k≠c;rcases hc with rfl|rfl<;>assumption)).trans (h.block k h1 h2)⟩
def Px(ws:List Wd)(ex:PS->Ex×PS)(w:World)(e:Ending)(w':World):Prop:=
 ∃lv iv fv,∃(pl:Nat) (rl:List wK),e=.returned (.agg #[lv,iv,fv,.bool (mR ws ex ⟨0,false,0⟩).2.aH,.int .i64 pl])/\Below w.heap.size w w'/\((mR ws ex ⟨0,false,0⟩).2.aH=true->pl=(mR ws ex ⟨0,false,0⟩).2.ai)/\
  jr (λk=>w.heap.size<=k/\k<w'.heap.size) w' lv iv fv ⟨ws,(mR ws ex ⟨0,false,0⟩).2.aH,pl,(mR ws ex ⟨0,false,0⟩).1.aq,rl⟩/\((mR ws ex ⟨0,false,0⟩).2.aH=false->lC ws ex (mR ws ex ⟨0,false,0⟩).1.aR rl)
theorem Fs{we:World}{rb cap kf:Nat}{il:List lu}{bad:Bool}(hl:cG ws)(h0:0<ws.length)(hM:Rm ws ⟨rb,g,cap⟩ w mb s iv fv wr)(hI:wr.ownsRow (mb+1) 260 2 iv k xs)(hF:wr.ownsRow (mb+1) 262 7 fv kf ys)(hC:ee ws ws.length ⟨0,false,0⟩=(il,st))(hK:st.aH=false->k=il.length/\xs=il.flatMap dI)(hE:rA ws ex ws.length st=rA ws ex n s)(hK':s.aH=false->st.aH=false/\kf=rl.length/\j_ (mb+1) wr ys rl/\(dp ws ex ws.length st).1=fl++(dp ws ex n s).1/\lC ws ex fl rl)(hr:Rl ws s i bad)(hend:bad=true\/(dV (ws[i]'hr.lt)).aeh=101)(hw:zO mb w.heap.size wr we):
  Px ws ex w (.returned (.agg #[.slice (some ⟨g,0,none⟩) ws.length cap,iv,fv,.bool bad,.int .i64 (dV (ws[i]'hr.lt)).ai])) we:=by
 have l1:=hM.LA;have l2:=hM.MD;have l3:=hM.lo3;simp only at l1 l2 l3
 have gm:bad=false->s.aU ws=ws[i]'hr.lt:=λhb=>by unfold PS.aU;rw [(hr.ok hb).1];simp [List.getD,hr.lt]
 have Ul:bad=false->(s.aU ws).aL=0:=λhb=>by
  rcases hend with h|h
  ·rw [hb]at h;cases h
  ·have:=J3 (ws[i]'hr.lt)
   rw [h]at this;rw [gm hb];simpa using this.symm
 have nQ:(mR ws ex ⟨0,false,0⟩).2=s:=by
  rw [Pu,hC];show rA ws ex ws.length st=s;rw [hE]
  cases bad with
  |false=>exact LH (Ul rfl)
  |true=>rw [hr.no rfl];exact JG hl h0 n _
 have hf:=hr.BJ
 have himp:(mR ws ex ⟨0,false,0⟩).1.aq=il:=by show(ee ws ws.length ⟨0,false,0⟩).1=il;rw [hC]
 have wk:(mR ws ex ⟨0,false,0⟩).1.aR=(dp ws ex ws.length st).1:=by show(dp ws ex ws.length (ee ws ws.length ⟨0,false,0⟩).2).1=_;rw [hC]
 have jM:Below w.heap.size w we:=hM.dB.trans ⟨hw.os,hw.tape,hw.output,Nat.le_of_eq hw.size.symm,λk hk=>hw.block k (by omega) (by omega)⟩
 have fG:∀b,mb+1<=b/\b<wr.heap.size->b<wr.heap.size->(w.heap.size<=b/\b<we.heap.size)/\we.heap[b]?=wr.heap[b]?:=λb hb _=>⟨⟨by omega,by rw [hw.size];exact hb.2⟩,hw.block b (by omega) (by omega)⟩
 refine⟨_,iv,fv,(dV (ws[i]'hr.lt)).ai,rl,by rw [nQ,hf],jM,λhb=> ?_,?_,λhb=> ?_⟩
 ·rw [nQ,hf]at hb
  subst hb;rw [nQ,show s.ai=(ws.getD i ⟨0,[],0⟩).ai from congrArg PS.ai (hr.no rfl)];show(ws[i]'hr.lt).ai=(ws.getD i _).ai;simp [List.getD,hr.lt]
 ·refine⟨⟨⟨_,_,_,rfl⟩,by obtain⟨a,b,c⟩:=ak hI;exact⟨_,_,_,c⟩,by obtain⟨a,b,c⟩:=ak hF;exact⟨_,_,_,c⟩⟩,λhb=> ?_⟩
  replace hb:(mR ws ex ⟨0,false,0⟩).2.aH=false:=hb
  rw [nQ]at hb;obtain⟨j0,j1,j2,j3,j4⟩:=hK' hb;obtain⟨k1,k2⟩:=hK j0;subst k1 k2 j1;obtain⟨_,_,hg,_⟩:=hM.sd;have eP:=hg.row.lt;refine⟨⟨g,cap,rfl,⟨by omega,by rw [hw.size];exact eP⟩,hg.row.keep (hw.block _ (by show g≠mb;omega) (by show g≠_;omega))⟩,?_,?_⟩
  ·rw [himp];exact(cW.of hI).keep fG
  ·exact(j2.row hF).toS.keep fG
 rw [nQ]at hb;obtain⟨j0,j1,j2,j3,j4⟩:=hK' hb;rw [wk,j3]
 have hb2:bad=false:=by rw [<-hf];exact hb
 rw [zK (by unfold PS.aN;rw [Ul hb2];rfl)];simpa using j4
theorem SF(s:ByteArray)(w:World)(ws:List Wd)(hwd:∀w,Calls prog 233 #[.string s] w λe w'=>∃g cap,e=.returned (.slice (some ⟨g,0,none⟩) ws.length cap)/\w.heap.size<=g/\lT g (ws.map dV) w'/\Below w.heap.size w w')(hl:eR ws)(h0:0<ws.length)(hsm:ws.length<=100001):
  Calls prog 184 #[.string s] w (Px ws (rd ws ws.length).1 w):=by
 have HWd:=aa hwd;have hZ:=aa hl.1;have HLw:=aa hl;clear hwd hl
 go_enter func184,ntmps184
 go_wp2_with fail
 refine(HWd.o _).mono ?_;rintro e w2 ⟨g,cap,rfl,hg,hrow,jM⟩;have hs2:=jM.size;simp at hs2 hg;have cU:=aa jM;have mY:=aa hrow;clear jM hrow
 go_wp2_with fail
 have HM0:=aa (Rm.init (cap:=cap) h0 hZ.o cU.o mY.o hg)
 go_loopg [5] ws.length (λn _ wr=>∃(st:PS) (il:List lu) (iv:Value) (k:Nat) (xs:List Value),st.rem ws<n/\k+n<=ws.length/\
  Hy (Rm ws ⟨w2.heap.size,g,cap⟩ w (w2.heap.size+1) st iv (.slice none 0 0) wr)/\Hy (wr.ownsRow (w2.heap.size+2) 260 2 iv k xs)/\
  Hy (ee ws ws.length ⟨0,false,0⟩=(il++(ee ws n st).1,(ee ws n st).2))/\Hy (st.aH=false->k=il.length/\xs=il.flatMap dI))
 case atStart=>exact⟨⟨0,false,0⟩,[],.slice none 0 0,0,[],by simp only [PS.rem];omega,by omega,HM0,aa (World.ownsRow_nil _ _ _ _),aa rfl,aa (λ_=>⟨rfl,rfl⟩)⟩
 obtain⟨st,il,iv,k,xs,jh,Ay,HM,HI,HC,HK⟩:=hrel;have hlt:=HM.o.sd.lt
 rcases hat:st.aN ws [[117,115,101]]with _|_
 ·go_wp2_with fail
  refine(bL HM.o.sd hZ.o [117,115,101]).mono ?_;rintro e w3 ⟨rfl,hb,fF⟩;rw [hat];rw [bF st _ hat]at fF;have Dx:=aa (HM.o.go hb fF);have HI3:=aa (bW HI.o hb (by show w2.heap.size<_;omega));have jl:=aa (show ee ws ws.length ⟨0,false,0⟩=(il,st) by rw [HC.o,Ph hat];simp)
  have aag:st.rem ws<ws.length:=by simp only [PS.rem];omega
  obtain⟨ex,hex⟩:∃ex,ex=(rd ws ws.length).1:=⟨_,rfl⟩;have Hf:=aa hex;clear hb fF hat HC HM HI HM0 cU mY jh Ay hex hlt
  go_wp2_with fail
  go_loopg [6] ws.length (λn _ wr=>∃(s:PS) (fl:List iL) (rl:List wK) (fv:Value) (kf:Nat) (ys:List Value),s.rem ws<n/\kf+n<=ws.length/\
   Hy (Rm ws ⟨w2.heap.size,g,cap⟩ w (w2.heap.size+1) s iv fv wr)/\Hy (wr.ownsRow (w2.heap.size+2) 260 2 iv k xs)/\Hy (wr.ownsRow (w2.heap.size+2) 262 7 fv kf ys)/\
   Hy (rA ws ex ws.length st=rA ws ex n s)/\Hy (s.aH=false->st.aH=false/\kf=rl.length/\j_ (w2.heap.size+2) wr ys rl/\(dp ws ex ws.length st).1=fl++(dp ws ex n s).1/\lC ws ex fl rl))
  case atStart=>exact⟨st,[],[],.slice none 0 0,0,[],aag,by omega,Dx,HI3,aa (World.ownsRow_nil _ _ _ _),aa rfl,aa (λhf=>⟨hf,rfl,j_.nil _ _ _,rfl,lC.nil _ _⟩)⟩
  case round=>
   obtain⟨s,fl,rl,fv,kf,ys,jh,Ay,HM,HI,HF,HE,W8⟩:=hrel;obtain⟨i,bad,hrg,Gm⟩:=HM.o.sd;have hlt:=HM.o.sd.lt;have p0:=ae hrg.blk 0;have p1:=ae hrg.blk 1;have p2:=ae hrg.blk 2;have Dz:=Gm.lt
   have ZF:(i:Int)<(ws.length:Int):=by omega
   obtain⟨q0,q1,q2⟩:=hrg.row.word i (by rw [List.length_map];exact Dz);simp at p0 p1 p2 q0 q1 q2;have HRg:=aa hrg;have AP:=aa Gm;clear hrg Gm;obtain⟨y,hy⟩:∃y,y=dV ws[i]:=⟨_,rfl⟩;rw [<-hy]at q0 q1 q2;have HYi:=aa hy;have hmf:=aj HM.o.blk;have m3:=ae HM.o.blk 3;have m4:=ae HM.o.blk 4;have gO:=af HM.o.blk;have r0:=ae HM.o.res 0;simp at m3 m4;clear hy;have m0:=ae HM.o.blk 0;have m1:=ae HM.o.blk 1;have m2:=ae HM.o.blk 2;have r1:=ae HM.o.res 1;have r2:=ae HM.o.res 2;have r3:=ae HM.o.res 3;have r4:=ae HM.o.res 4;have hrf:=aj HM.o.res;have Gm:=af HM.o.res;simp at m0 m1 m2 r0 r1 r2 r3 r4
   have W9:¬w2.heap.size+1=w.heap.size:=by omega
   have NC:¬w.heap.size=w2.heap.size+1:=by omega
   rcases bad with _|_
   ·by_cases hw:(y.aeh:Int)=101
    ·rw [hw]at q0
     obtain⟨io,ic,xH⟩:=ak HI.o;obtain⟨fo,fc,se⟩:=ak HF.o;subst xH se
     go_wp2_with fail
     go_quiet (fail)
     go_wp2_with fail
     go_region
     all_goals
      go_wp2;refine bodyPost_ret (v:=.agg #[.slice (some ⟨g,0,none⟩) ws.length cap,.slice io k ic,.slice fo kf fc,.bool false,.int .i64 y.ai]) (by simp [results,results184,go_sem,r0,r1,r2,r3,r4,Gm,W9]) rfl ?_;have hyi:=HYi.o;subst hyi;rw [<-Hf.o];exact Fs hZ.o h0 HM.o HI.o HF.o jl.o HK.o HE.o W8.o AP.o (Or.inr (by omega)) (((((((((zO.Uk _ _ wr nq).set (Or.inl rfl) 3 _).set (Or.inl rfl) 4 _).set (Or.inr rfl) 0 _).set (Or.inr rfl) 1 _).set (Or.inr rfl) 2 _).set (Or.inr rfl) 3 _).set (Or.inr rfl) 4 _).drew)
    ·have hwb:((y.aeh:Int)==101)=false:=by simpa using hw
     have SG:((y.aeh:Int) !=101)=true:=by simpa using hw
     go_wp2_with fail
     go_quiet (fail)
     generalize hwq:wr.drewN nq=wq
     have dN:eh w2.heap.size wr wq:=by rw [<-hwq];exact⟨rfl,rfl,rfl,Nat.le_refl _,λ_ _ _=>rfl⟩
     have cR:wq.heap.size=wr.heap.size:=by rw [<-hwq];rfl
     have HMq:=aa (HM.o.go dN (HM.o.sd.keep (by rw [<-hwq];rfl) (by rw [<-hwq];rfl)));have HIq:=aa (bW HI.o dN (by show w2.heap.size<_;omega));have HFq:=aa (bW HF.o dN (by show w2.heap.size<_;omega));have HKq:=aa (show s.aH=false->st.aH=false/\kf=rl.length/\j_ (w2.heap.size+2) wq ys rl/\(dp ws ex ws.length st).1=fl++(dp ws ex gk s).1/\lC ws ex fl rl from λhf=>⟨(W8.o hf).1,(W8.o hf).2.1,(W8.o hf).2.2.1.but dN (by show w2.heap.size<_;omega),(W8.o hf).2.2.2⟩);have hP:g<w2.heap.size:=HM.o.MD
     have hmq:w2.heap.size+1<wq.heap.size:=by omega
     clear cR;clear dN hwq HM HI HF W8 HRg p0 p1 p2 q0 q1 q2 hmf m0 m1 m2 m3 m4 r0 r1 r2 r3 r4 hrf hwb SG;have WA:=aa (Fu.init HMq.o.sd hP)
     go_wp2_with fail
     refine(bL WA.o.sd hZ.o [112,117,98]).mono ?_;rintro e w4 ⟨rfl,hb,fF⟩;obtain⟨pb,TW⟩:∃b,b=s.aN ws [[112,117,98]]:=⟨_,rfl⟩;rw [<-TW];have Zq:=aa TW;have Py:=aa (WA.o.go hb fF);clear hb fF TW WA;have c2:=ae Py.o.blk 2;have cf:=aj Py.o.blk;have cl:=af Py.o.blk;simp at c2;have GZ:=aa (show Fu ws ⟨w2.heap.size,g,cap⟩ wq _ #[.string ⟨#[]⟩,.int .i64 0,.bool pb,.slice none 0 0,.slice none 0 0,.int .u8 0,.int .i64 0] _ from Py.o.store 2 (.bool pb))
     go_wp2_with fail
     refine(gX GZ.o.sd hZ.o [102,110]).mono ?_;rintro e w5 ⟨rfl,hb,fF⟩;have NM:=aa (GZ.o.go hb fF);clear hb fF Py GZ c2 cf cl
     go_wp2_with fail
     refine(sg NM.o.sd hZ.o).mono ?_;rintro e w6 ⟨y1,rfl,hy,hb,fF⟩;have HY1:=aa hy;have AA:=aa (NM.o.go hb fF);clear hb fF hy NM;unfold oF;have c0:=ae AA.o.blk 0;have c1:=ae AA.o.blk 1;have cf:=aj AA.o.blk;have cl:=af AA.o.blk;simp at c0 c1;obtain⟨s3,hs3⟩:∃x,x=((s.a_ ws [112,117,98]).au ws [102,110]).bH ws:=⟨_,rfl⟩;rw [<-hs3]at AA;have nH:=aa hs3;have dy:=aa (λhf=>AA.o.sd.bad hf);clear hs3;have WB:=aa (show Fu ws ⟨w2.heap.size,g,cap⟩ wq s3 #[.string ⟨y1.aX.toArray⟩,.int .i64 y1.ai,.bool pb,.slice none 0 0,.slice none 0 0,.int .u8 0,.int .i64 0] _ from((AA.o.store 0 (.string ⟨y1.aX.toArray⟩)).store 1 (.int .i64 y1.ai)).alloc (.cells #[.int .u8 y1.aeh,.string ⟨y1.aX.toArray⟩,.int .i64 y1.ai] 361));have Jc:=aa (Pr w6 (.cells #[.int .u8 y1.aeh,.string ⟨y1.aX.toArray⟩,.int .i64 y1.ai] 361) wq.heap.size 0 1 (.string ⟨y1.aX.toArray⟩) (.int .i64 y1.ai));have hq6:=cl
     go_wp2_with fail
     refine(gX WB.o.sd hZ.o [40]).mono ?_;rintro e w7 ⟨rfl,hb,fF⟩;have Pz:=aa (WB.o.go hb fF);have N0:=aa ((hb.block w6.heap.size (af Jc.o) (by show w6.heap.size≠w2.heap.size;omega)).trans Jc.o);clear hb fF AA WB Jc c0 c1 cf cl;obtain⟨s4,mC⟩:∃x,x=s3.au ws [40]:=⟨_,rfl⟩;rw [<-mC]at Pz;have ri:=aa mC;clear mC
     go_wp2_with fail
     refine(bL Pz.o.sd hZ.o [41]).mono ?_;rintro e w8 ⟨rfl,hb,fF⟩;obtain⟨nb,wG⟩:∃b,b=s4.aN ws [[41]]:=⟨_,rfl⟩;rw [<-wG];have L6:=aa wG;have WC:=aa (Pz.o.go hb fF);have XR:=aa ((hb.block w6.heap.size (af N0.o) (by show w6.heap.size≠w2.heap.size;omega)).trans N0.o);have h48:=Pz.o.sd.lt.2;clear hb fF Pz N0 wG;obtain⟨s5,hs5⟩:∃x,x=s4.a_ ws [41]:=⟨_,rfl⟩;rw [<-hs5]at WC;have sR:=aa hs5;clear hs5
     have WD:=aa (show(!nb)=true/\eI ws s3=(([]:List sL)++(nz ws ws.length s5).1,(nz ws ws.length s5).2)\/(!nb)=false/\(eI ws s3).2=s5/\(s5.aH=false->(eI ws s3).1= []) by
      have e4:=ri.o;have e5:=sR.o
      rcases hn:nb with _|_
      ·have hq:s4.aN ws [[41]]=false:=by rw [<-L6.o,hn]
       rw [bF _ _ hq]at e5;rw [e4]at hq;refine Or.inl ⟨rfl,?_⟩;rw [wM hq,e5,e4];rfl
      ·have hq:s4.aN ws [[41]]=true:=by rw [<-L6.o,hn]
       rw [e4]at hq;refine Or.inr ⟨rfl,?_,?_⟩
       ·rw [qp hq,e5,e4]
       ·intro _;rw [qp hq])
     have Az:s5.rem ws<ws.length:=by simp only [PS.rem];omega
     obtain⟨mo,EP⟩:∃b,b= !nb:=⟨_,rfl⟩;rw [<-EP]at WD;have HMo:=aa EP;clear L6
     go_upto_block 4 with fail
     go_cut [9,10]from 36 to 133 (λv9 v10 wx=>∃(s':PS) (pl:List sL) (pv kv:Value) (k1:Nat) (x1 QP:List Value),Hy (Fu ws ⟨w2.heap.size,g,cap⟩ wq s' #[.string ⟨y1.aX.toArray⟩,.int .i64 y1.ai,.bool pb,pv,kv,.int .u8 0,.int .i64 0] wx)/\
      Hy (wx.ownsRow (w6.heap.size+1) 260 2 pv k1 x1)/\Hy (wx.ownsRow (w6.heap.size+1) 5 1 kv k1 QP)/\
      Hy ((eI ws s3).2=s'/\(s'.aH=false->(eI ws s3).1=pl/\k1=pl.length/\x1=cD (pl.map λx=>(x.ag,x.ai))/\QP=(pl.map λx=>sT x.eF).map λ(k:Nat)=> .int .u8 k)))
     case first=>
      go_wp2_with fail
      go_loopg [9] ws.length (λn v9 wx=>∃(b:Bool) (s':PS) (pl:List sL) (pv kv:Value) (k1:Nat) (x1 QP:List Value),v9=.bool b/\(b=true->s'.rem ws<n)/\k1+n<=ws.length+1/\
       Hy (Fu ws ⟨w2.heap.size,g,cap⟩ wq s' #[.string ⟨y1.aX.toArray⟩,.int .i64 y1.ai,.bool pb,pv,kv,.int .u8 0,.int .i64 0] wx)/\Hy (∃y:qH,wx.heap[w6.heap.size]?=some (.cells #[.int .u8 y.aeh,.string ⟨y.aX.toArray⟩,.int .i64 y.ai] 361 (0,0)))/\
       Hy (wx.ownsRow (w6.heap.size+1) 260 2 pv k1 x1)/\Hy (wx.ownsRow (w6.heap.size+1) 5 1 kv k1 QP)/\
       Hy (b=true/\eI ws s3=(pl++(nz ws n s').1,(nz ws n s').2)\/b=false/\(eI ws s3).2=s'/\(s'.aH=false->(eI ws s3).1=pl))/\
       Hy (s'.aH=false->k1=pl.length/\x1=cD (pl.map λx=>(x.ag,x.ai))/\QP=(pl.map λx=>sT x.eF).map λ(k:Nat)=> .int .u8 k))
      case atStart=>exact⟨mo,s5,[],.slice none 0 0,.slice none 0 0,0,[],[],by rw [HMo.o],λ_=>Az,by omega,WC,aa ⟨y1,XR.o⟩,aa (World.ownsRow_nil _ _ _ _),aa (World.ownsRow_nil _ _ _ _),WD,aa (λ_=>⟨rfl,rfl,rfl⟩)⟩
      case round=>
       obtain⟨b,s',pl,pv,kv,k1,x1,QP,rfl,Ax,ad7,HG,HW,uR,WE,E4,pq⟩:=hrel
       rcases b with _|_
       ·go_wp2_with fail
        go_meet
        case rel=>
         refine⟨s',pl,pv,kv,k1,x1,QP,HG,uR,WE,aa ?_⟩
         rcases E4.o with⟨h,_⟩|⟨_,h1,h2⟩
         ·cases h
         ·exact⟨h1,λhf=>⟨h2 hf,pq.o hf⟩⟩
       ·obtain⟨i',Sz,hrg,aah⟩:=HG.o.sd
        have p2:=ae hrg.blk 2;have pl2:=af hrg.blk;simp at p2;have abW:=aa aah;clear hrg aah;have LI:=Ax rfl;have eu:=HG.o.sd.lt
        rcases Sz with _|_
        ·go_wp2_with fail
         refine(sg HG.o.sd hZ.o).mono ?_;rintro e wb ⟨y2,rfl,hy,hb,fF⟩;have HY2:=aa hy;have WG:=aa (HG.o.go hb fF);have P0:=aa (bW uR.o hb (by show w2.heap.size<_;omega));have P1:=aa (bW WE.o hb (by show w2.heap.size<_;omega));obtain⟨y0,Um⟩:=HW.o;have R2:=aa ((hb.block w6.heap.size (af Um) (by show w6.heap.size≠w2.heap.size;omega)).trans Um);have d0:=ae R2.o 0;have d1:=ae R2.o 1;have d2:=ae R2.o 2;have df:=aj R2.o;have dl:=af R2.o;simp at d0 d1 d2;clear hy hb fF Um HG uR WE HW p2 pl2;unfold oF
         go_wp2_with fail
         have Gs:=aa (((WG.o.other hq6 0 (.int .u8 y2.aeh)).other hq6 1 (.string ⟨y2.aX.toArray⟩)).other hq6 2 (.int .i64 y2.ai));refine(gX Gs.o.sd hZ.o [58]).mono ?_;rintro e wc ⟨rfl,hb,fF⟩;have sI:=aa (Gs.o.go hb fF);have P2:=aa (bW (bK (b:=w6.heap.size) (o:=2) (u:=.int .i64 y2.ai) (bK (b:=w6.heap.size) (o:=1) (u:=.string ⟨y2.aX.toArray⟩) (bK (b:=w6.heap.size) (o:=0) (u:=.int .u8 y2.aeh) P0.o (by omega)) (by omega)) (by omega)) hb (by show w2.heap.size<_;omega));have P3:=aa (bW (bK (b:=w6.heap.size) (o:=2) (u:=.int .i64 y2.ai) (bK (b:=w6.heap.size) (o:=1) (u:=.string ⟨y2.aX.toArray⟩) (bK (b:=w6.heap.size) (o:=0) (u:=.int .u8 y2.aeh) P1.o (by omega)) (by omega)) (by omega)) hb (by show w2.heap.size<_;omega));have HWs:=aa (show(((wb.setCell ⟨w6.heap.size,0,none⟩ (.int .u8 y2.aeh)).setCell ⟨w6.heap.size,1,none⟩ (.string ⟨y2.aX.toArray⟩)).setCell ⟨w6.heap.size,2,none⟩ (.int .i64 y2.ai)).heap[w6.heap.size]?=some (.cells #[.int .u8 y2.aeh,.string ⟨y2.aX.toArray⟩,.int .i64 y2.ai] 361 (0,0))from ax (ax (ax R2.o 0 _) 1 _) 2 _);have lW:=aa ((hb.block w6.heap.size (af HWs.o) (by show w6.heap.size≠w2.heap.size;omega)).trans HWs.o);clear hb fF WG Gs P0 P1 R2 HWs d0 d1 d2 df dl
         go_wp2_with fail
         refine(Pf sI.o.sd hZ.o).mono ?_;rintro e wd ⟨kk,rfl,hk2,hkt,hb,fF⟩;have WH:=aa hkt;rw [<-Fp ws s']at fF;obtain⟨sp,hsp⟩:∃x,x=(bU ws s').2:=⟨_,rfl⟩;rw [<-hsp]at fF;have r_:=aa hsp;have rV:=aa (sI.o.go hb fF);have Di:=aa (bW P2.o hb (by show w2.heap.size<_;omega));have LJ:=aa (bW P3.o hb (by show w2.heap.size<_;omega));have A8:=aa ((hb.block w6.heap.size (af lW.o) (by show w6.heap.size≠w2.heap.size;omega)).trans lW.o);clear hb fF hkt hsp sI P2 P3 lW;obtain⟨po,pc,By⟩:=ak Di.o;obtain⟨qo,qc,RA⟩:=ak LJ.o;subst By RA;have c3:=ae rV.o.blk 3;have c4:=ae rV.o.blk 4;have cf:=aj rV.o.blk;have cl:=af rV.o.blk;have d1:=ae A8.o 1;have d2:=ae A8.o 2;have dl:=af A8.o;simp at c3 c4 d1 d2
         have b1:k1+1<=maxLen:=by unfold maxLen;omega
         have b2:(k1+1)*24<=140737488355328:=by omega
         have b3:(k1+1)*1<=140737488355328:=by omega
         obtain⟨i0,hi,hz0,hz1,hz2⟩:=info_parts ug
         go_wp2_with (at_builtin;refine bC _ rfl _ _ 246 rfl (w6.heap.size+1) 260 i0 (.agg #[.string ⟨#[]⟩,.int .i64 0]) 2 24 underlying246 hi hz0 hz1 hz2 rfl (by decide) (.slice po k1 pc) k1 x1 rfl (Di.o.alloc _) ⟨wd.heap.size,0,none⟩ 1 1 [.string ⟨y2.aX.toArray⟩,.int .i64 y2.ai] rfl rfl (Pv wd _ _ _) (aaf rfl rfl) (by omega) b1 b2 (by simp;omega) ?_)
         intro g1 wO wa hown aB aJ;have Gk:=aa (rV.o.grown (aA aB) (λk e=>by have:=(aG Di.o k e).1;omega));have P4:=aa (dL (LJ.o.alloc _) (Di.o.alloc _) (by decide) aB);have P5:=aa hown;have Jc:=aa (((aA aB).block _ dl (λe=>by have:=(aG Di.o _ e.symm).1;omega)).trans A8.o);clear hown aB aJ hi hz0 hz1 hz2 i0 c3 c4 cf cl d1 d2 dl rV LJ Di A8;have c3:=ae Gk.o.blk 3;have c4:=ae Gk.o.blk 4;have cf:=aj Gk.o.blk;have cl:=af Gk.o.blk;have dl:=af Jc.o;simp at c3 c4;have D9:=aa (show Fu ws ⟨w2.heap.size,g,cap⟩ wq sp #[.string ⟨y1.aX.toArray⟩,.int .i64 y1.ai,.bool pb,.slice (some ⟨g1,0,none⟩) (k1+1) wO,.slice qo k1 qc,.int .u8 0,.int .i64 0] _ from Gk.o.store 3 (.slice (some ⟨g1,0,none⟩) (k1+1) wO));have P6:=aa (bK (b:=wq.heap.size) (o:=3) (u:=.slice (some ⟨g1,0,none⟩) (k1+1) wO) P5.o (by omega));have Fv:=aa (bK (b:=wq.heap.size) (o:=3) (u:=.slice (some ⟨g1,0,none⟩) (k1+1) wO) P4.o (by omega));have aai:=aa ((Below.heap_setCell wa (⟨wq.heap.size,3,none⟩:Addr) (.slice (some ⟨g1,0,none⟩) (k1+1) wO) w6.heap.size (by show w6.heap.size≠wq.heap.size;omega)).trans Jc.o);obtain⟨i0,hi,hz0,hz1,hz2⟩:=info_parts SD
         go_wp2_with (at_builtin;refine bC _ rfl _ _ 115 rfl (w6.heap.size+1) 5 i0 (.int .u8 0) 1 1 underlying115 hi hz0 hz1 hz2 rfl (by decide) (.slice qo k1 qc) k1 QP rfl (Fv.o.alloc _) ⟨wa.heap.size,0,none⟩ 1 1 [.int .u8 kk] rfl rfl (Ps wa _ _ _ _) (Ii rfl) (by omega) b1 b3 (by simp;omega) ?_)
         intro g2 wN we hown aB aJ;have uh:=aa (D9.o.grown (aA aB) (λk e=>by have:=(aG Fv.o k e).1;omega));have LK:=aa (dL (P6.o.alloc _) (Fv.o.alloc _) (by decide) aB);have LL:=aa hown;have aaj:=aa (((aA aB).block _ (by simpa [World.setCell]using dl) (λe=>by have:=(aG Fv.o _ e.symm).1;omega)).trans aai.o);clear hown aB aJ hi hz0 hz1 hz2 i0 c3 c4 cf cl dl Gk D9 P4 P5 Jc Fv P6 aai;have c4:=ae uh.o.blk 4;have cf:=aj uh.o.blk;have cl:=af uh.o.blk;simp at c4;have Jg:=aa (show Fu ws ⟨w2.heap.size,g,cap⟩ wq sp #[.string ⟨y1.aX.toArray⟩,.int .i64 y1.ai,.bool pb,.slice (some ⟨g1,0,none⟩) (k1+1) wO,.slice (some ⟨g2,0,none⟩) (k1+1) wN,.int .u8 0,.int .i64 0] _ from uh.o.store 4 (.slice (some ⟨g2,0,none⟩) (k1+1) wN));have aak:=aa (bK (b:=wq.heap.size) (o:=4) (u:=.slice (some ⟨g2,0,none⟩) (k1+1) wN) LK.o (by omega));have aal:=aa (bK (b:=wq.heap.size) (o:=4) (u:=.slice (some ⟨g2,0,none⟩) (k1+1) wN) LL.o (by omega));have Vk:=aa ((Below.heap_setCell we (⟨wq.heap.size,4,none⟩:Addr) (.slice (some ⟨g2,0,none⟩) (k1+1) wN) w6.heap.size (by show w6.heap.size≠wq.heap.size;omega)).trans aaj.o)
         go_wp2_with fail
         refine(bL Jg.o.sd hZ.o [44]).mono ?_;rintro e wf ⟨rfl,hb,fF⟩;have Un:=aa (Jg.o.go hb fF);have WI:=aa (bW aak.o hb (by show w2.heap.size<_;omega));have WJ:=aa (bW aal.o hb (by show w2.heap.size<_;omega));have XU:=aa ((hb.block w6.heap.size (af Vk.o) (by show w6.heap.size≠w2.heap.size;omega)).trans Vk.o);have abX:=Jg.o.sd.lt.2;have abY:=aa (zM eu.2);clear hb fF uh Jg LK aak LL aal aaj Vk c4 cf cl b1 b2 b3
         rcases ME:sp.aN ws [[44]]with _|_
         ·rw [bF _ _ ME]at Un
          go_wp2_with fail
          refine(gX Un.o.sd hZ.o [41]).mono ?_;rintro e wg ⟨rfl,hb,fF⟩;have HGa:=aa (Un.o.go hb fF);have abZ:=aa (bW WI.o hb (by show w2.heap.size<_;omega));have ab_:=aa (bW WJ.o hb (by show w2.heap.size<_;omega));have HWa:=aa ((hb.block w6.heap.size (af XU.o) (by show w6.heap.size≠w2.heap.size;omega)).trans XU.o);have CY:=aa ME;clear hb fF Un WI WJ XU ME;go_wp2
          go_roundg (gk-1)
          case measure=>omega
          case rel=>
           have hsp:=r_.o;have ME:=CY.o;subst hsp;refine⟨false,_,pl++ [(bU ws s').1],_,_,k1+1,_,_,rfl,(λh=>by cases h),by omega,HGa,aa ⟨y2,HWa.o⟩,abZ,ab_,aa (Or.inr ⟨rfl,?_,λ_=> ?_⟩),aa (λhf=>JF pq.o HY2.o WH.o (jC hf))⟩
           ·rcases E4.o with⟨_,h1⟩|⟨h,_⟩
            ·rw [h1,BO ME]
            ·cases h
           ·rcases E4.o with⟨_,h1⟩|⟨h,_⟩
            ·rw [h1,BO ME]
            ·cases h
         ·have CY:=aa ME
          have kp:=aa (zL hZ.o ME abX);clear ME;go_wp2
          go_roundg (gk-1)
          case measure=>omega
          case rel=>
           have hsp:=r_.o;have ME:=CY.o;have qV:=kp.o;have dG:=abY.o;subst hsp;refine⟨true,_,pl++ [(bU ws s').1],_,_,k1+1,_,_,rfl,(λ_=> ?_),by omega,Un,aa ⟨y2,XU.o⟩,WI,WJ,aa (Or.inl ⟨rfl,?_⟩),aa (λhf=>JF pq.o HY2.o WH.o (JD hf))⟩
           ·have ui:=PS.bX hZ.o ME dG.2
            simp only [PS.rem]at LI⊢;omega
           ·rcases E4.o with⟨_,h1⟩|⟨h,_⟩
            ·obtain⟨n,hn⟩:∃n,gk=n+1:=⟨gk-1,by omega⟩
             rw [h1,hn,Po ME];simp
            ·cases h
        ·go_wp2_with fail
         go_meet
         case rel=>
          refine⟨s',pl,pv,kv,k1,x1,QP,HG,uR,WE,aa ?_⟩;have e:=abW.o.no rfl
          rcases E4.o with⟨_,h1⟩|⟨h,_⟩
          ·rw [h1]
           refine⟨?_,λhf=> ?_⟩
           ·show(nz ws gk s').2=s'
            rw [e];exact Pp hZ.o h0 gk _
           ·rw [e]at hf;cases hf
          ·cases h
     case rest=>
      obtain⟨s',pl,pv,kv,k1,x1,QP,HG,uR,WE,E4⟩:=hcut;clear WC XR WD sR ri Az HMo h48;have hHG:=HG.o.but.size
      go_wp2_with fail
      refine(gX HG.o.sd hZ.o [58]).mono ?_;rintro e wd ⟨rfl,hb,fF⟩;have WG:=aa (HG.o.go hb fF);have P0:=aa (bW uR.o hb (by show w2.heap.size<_;omega));have P1:=aa (bW WE.o hb (by show w2.heap.size<_;omega));clear hb fF HG uR WE hHG
      go_wp2_with fail
      refine(Pf WG.o.sd hZ.o).mono ?_;rintro e we ⟨kk,rfl,hk2,hkt,hb,fF⟩;have WH:=aa hkt;have Gs:=aa (WG.o.go hb fF);have aam:=aa (bW P0.o hb (by show w2.heap.size<_;omega));have aan:=aa (bW P1.o hb (by show w2.heap.size<_;omega));clear hb fF hkt WG P0 P1;have c5:=ae Gs.o.blk 5;have cf:=aj Gs.o.blk;have cl:=af Gs.o.blk;simp at c5;have sI:=aa (show Fu ws ⟨w2.heap.size,g,cap⟩ wq _ #[.string ⟨y1.aX.toArray⟩,.int .i64 y1.ai,.bool pb,pv,kv,.int .u8 kk,.int .i64 0] _ from Gs.o.store 5 (.int .u8 kk));have P2:=aa (bK (b:=wq.heap.size) (o:=5) (u:=.int .u8 kk) aam.o (by omega));have P3:=aa (bK (b:=wq.heap.size) (o:=5) (u:=.int .u8 kk) aan.o (by omega))
      go_wp2_with fail
      refine(gX sI.o.sd hZ.o [61]).mono ?_;rintro e wf ⟨rfl,hb,fF⟩;obtain⟨s6,pK⟩:∃x,x=((s'.au ws [58]).dQ ws).au ws [61]:=⟨_,rfl⟩;rw [<-pK]at fF;have xP:=aa pK;have rV:=aa (sI.o.go hb fF);have Di:=aa (bW P2.o hb (by show w2.heap.size<_;omega));have LJ:=aa (bW P3.o hb (by show w2.heap.size<_;omega));clear hb fF pK Gs sI aam P2 aan P3 c5 cf cl;obtain⟨i6,SC,hrg,aao⟩:=rV.o.sd;have p1:=ae hrg.blk 1;have pl1:=af hrg.blk;have ab':=aa aao;have c6:=ae rV.o.blk 6;have cf:=aj rV.o.blk;have cl:=af rV.o.blk;simp at c6 p1;clear hrg aao;have Gk:=aa (show Fu ws ⟨w2.heap.size,g,cap⟩ wq s6 #[.string ⟨y1.aX.toArray⟩,.int .i64 y1.ai,.bool pb,pv,kv,.int .u8 kk,.int .i64 i6] _ from rV.o.store 6 (.int .i64 i6));have P5:=aa (bK (b:=wq.heap.size) (o:=6) (u:=.int .i64 i6) Di.o (by omega));have P4:=aa (bK (b:=wq.heap.size) (o:=6) (u:=.int .i64 i6) LJ.o (by omega));have jI:=rV.o.sd.lt.2
      go_wp2_with fail
      refine((J6 (P:=⟨w2.heap.size,g,cap⟩) HLw.o h0 ws.length).1 s6 _ Gk.o.sd (by simp only [PS.rem];omega)).mono ?_;rintro e wg ⟨rfl,hb,fF,dG⟩;rw [<-Hf.o]at fF dG;have D9:=aa (Gk.o.go hb fF);have P6:=aa (bW P5.o hb (by show w2.heap.size<_;omega));have Fv:=aa (bW P4.o hb (by show w2.heap.size<_;omega));have MW:=aa (show s6.i<=(ex s6).2.i/\(ex s6).2.i<ws.length from⟨dG,fF.lt.2⟩);clear hb fF dG rV Gk Di P5 LJ P4 c6 cf cl p1 pl1
      go_wp2_with fail
      refine(gX D9.o.sd hZ.o [59]).mono ?_;rintro e wh ⟨rfl,hb,fF⟩
      have S0:((ex s6).2).au ws [59]=(gw ws ex s).2:=by rw [Dh,<-nH.o,E4.o.1,<-xP.o]
      rw [S0]at fF;have uh:=aa (D9.o.go hb fF);have LK:=aa (bW P6.o hb (by show w2.heap.size<_;omega));have LL:=aa (bW Fv.o hb (by show w2.heap.size<_;omega));clear hb fF S0 D9 P6 Fv;have HMz:=aa (HMq.o.go uh.o.but uh.o.sd);have HIz:=aa (bW HIq.o uh.o.but (by show w2.heap.size<_;omega));have L9:=aa (bW HFq.o uh.o.but (by show w2.heap.size<_;omega));obtain⟨po,pc,By⟩:=ak LK.o;obtain⟨qo,qc,RA⟩:=ak LL.o;obtain⟨fo,fc,se⟩:=ak L9.o;subst By RA se;have c0:=ae uh.o.blk 0;have c1:=ae uh.o.blk 1;have c2:=ae uh.o.blk 2;have c3:=ae uh.o.blk 3;have c4:=ae uh.o.blk 4;have c5:=ae uh.o.blk 5;have c6:=ae uh.o.blk 6;have cl:=af uh.o.blk;have m2:=ae HMz.o.blk 2;have ml:=af HMz.o.blk;simp at c0 c1 c2 c3 c4 c5 c6 m2
      have b1:kf+1<=maxLen:=by unfold maxLen;omega
      have b2:(kf+1)*96<=140737488355328:=by omega
      obtain⟨i0,hi,hz0,hz1,hz2⟩:=info_parts LF
      go_wp2_with (at_builtin;refine bC _ rfl _ _ 247 rfl (w2.heap.size+2) 262 i0 (.agg #[.string ⟨#[]⟩,.int .i64 0,.bool false,.slice none 0 0,.slice none 0 0,.int .u8 0,.int .i64 0]) 7 96 underlying247 hi hz0 hz1 hz2 rfl (by decide) (.slice fo kf fc) kf ys rfl (L9.o.alloc _) ⟨wh.heap.size,0,none⟩ 1 1 [.string ⟨y1.aX.toArray⟩,.int .i64 y1.ai,.bool pb,.slice po k1 pc,.slice qo k1 qc,.int .u8 kk,.int .i64 i6] rfl rfl (W5 wh _ _ _ _ _ _ _ _) (abV rfl rfl rfl rfl rfl rfl rfl) (by omega) b1 b2 (by simp;omega) ?_)
      intro g' cap' wi hown aB aJ;have HMi:=aa (HMz.o.grown (aA aB) (λk e=>by have:=(aG L9.o k e).1;omega));have HIi:=aa (dL (HIz.o.alloc _) (L9.o.alloc _) (by decide) aB);have oD:=aa (show oa ws ex by rw [Hf.o];exact Pq hZ.o h0 _ h0)
      have oZ:=aa (Pw (n:=gk) hZ.o h0 oD.o hlt.2 (by
       obtain⟨a,b⟩:=AP.o.ok rfl
       have e:s.aU ws=ws[i]:=by unfold PS.aU;rw [a];simp [List.getD,Dz]
       have h:=J3 ws[i];rw [<-HYi.o]at h;rw [e];intro hk;rw [hk]at h;simp at h
       omega) jh (λt e=>by rw [e,<-nH.o,E4.o.1,<-xP.o];exact MW.o))
      have HKi:=aa (show(gw ws ex s).2.aH=false->st.aH=false/\kf+1=(rl++ [(wK.mk y1.aX y1.ai pb (pl.map λx=>(x.ag,x.ai)) (pl.map λx=>sT x.eF) kk i6)]).length/\j_ (w2.heap.size+2) wi (ys++ [.string ⟨y1.aX.toArray⟩,.int .i64 y1.ai,.bool pb,.slice po k1 pc,.slice qo k1 qc,.int .u8 kk,.int .i64 i6]) (rl++ [(wK.mk y1.aX y1.ai pb (pl.map λx=>(x.ag,x.ai)) (pl.map λx=>sT x.eF) kk i6)])/\
        (dp ws ex ws.length st).1=(fl++ [(gw ws ex s).1])++(dp ws ex (gk-1) (gw ws ex s).2).1/\lC ws ex (fl++ [(gw ws ex s).1]) (rl++ [(wK.mk y1.aX y1.ai pb (pl.map λx=>(x.ag,x.ai)) (pl.map λx=>sT x.eF) kk i6)]) by
       intro hf;obtain⟨g4,has⟩:=W4 hZ.o h0 oD.o nH.o dy.o HY1.o E4.o.1 (λh=>(E4.o.2 h).1) WH.o xP.o ab'.o hf;rw [<-Zq.o]at has;obtain⟨e1,e2,e3,e4⟩:=E4.o.2 g4;obtain⟨a0,a1,a2,a3,a4⟩:=HKq.o (AP.o.ok rfl).2;have xD:=L9.o.1;refine⟨a0,by simp [a1],?_,by rw [a3,oZ.o.2.2 hf];simp,a4.app has⟩;subst e2 e3 e4;refine j_.app (f:=(wK.mk y1.aX y1.ai pb (pl.map λx=>(x.ag,x.ai)) (pl.map λx=>sT x.eF) kk i6)) ((a2.but uh.o.but (by show w2.heap.size<_;omega)).but ((eh.refl w2.heap.size _).alloc _) (by omega)) (L9.o.alloc _) aB (by rw [xD,a1]) ?_ ?_
       ·have:=(cI LK.o (show w2.heap.size+2<=w6.heap.size+1 by omega)).alloc (.cells #[.string ⟨y1.aX.toArray⟩,.int .i64 y1.ai,.bool pb,.slice po pl.length pc,.slice qo pl.length qc,.int .u8 kk,.int .i64 i6] 262)
        simpa using this
       ·have:=(cI LL.o (show w2.heap.size+2<=w6.heap.size+1 by omega)).alloc (.cells #[.string ⟨y1.aX.toArray⟩,.int .i64 y1.ai,.bool pb,.slice po pl.length pc,.slice qo pl.length qc,.int .u8 kk,.int .i64 i6] 262)
        simpa using this)
      have n2:=ae HMi.o.blk 2;have nf:=aj HMi.o.blk;have ns:=af HMi.o.blk;simp at n2;have HMn:=aa (HMi.o.W7 (.slice (some ⟨g',0,none⟩) (kf+1) cap'));have oM:=aa (bK (o:=2) (u:=.slice (some ⟨g',0,none⟩) (kf+1) cap') HIi.o (b:=w2.heap.size+1) (by omega));have qi:=aa (bK (o:=2) (u:=.slice (some ⟨g',0,none⟩) (kf+1) cap') hown (b:=w2.heap.size+1) (by omega));have WK:=aa (HE.o.trans oZ.o.1);have HRn:=aa oZ.o.2.1
      have HKn:=aa (λhf=>by
       obtain⟨a0,a1,a2,a3⟩:=HKi.o hf
       exact(⟨a0,a1,a2.set (show w2.heap.size+1<w2.heap.size+2 by omega) 2 (.slice (some ⟨g',0,none⟩) (kf+1) cap'),a3⟩:_/\_/\_/\_))
      clear hown aB aJ hi hz0 hz1 hz2 i0 c0 c1 c2 c3 c4 c5 c6 cl m2 ml HMz HIz L9 uh LK LL HKi HMi HIi oZ HKq HMq HIq HFq;go_wp2
      go_roundg (gk-1)
      case measure=>omega
      case rel=>exact⟨(gw ws ex s).2,fl++ [(gw ws ex s).1],_,_,kf+1,_,HRn.o,by omega,HMn,oM,qi,WK,HKn⟩
   ·skip
    obtain⟨io,ic,xH⟩:=ak HI.o;obtain⟨fo,fc,se⟩:=ak HF.o;subst xH se
    go_wp2_with fail
    go_quiet (fail)
    go_wp2_with fail
    go_region
    all_goals
     go_wp2;refine bodyPost_ret (v:=.agg #[.slice (some ⟨g,0,none⟩) ws.length cap,.slice io k ic,.slice fo kf fc,.bool true,.int .i64 y.ai]) (by simp [results,results184,go_sem,r0,r1,r2,r3,r4,Gm,W9]) rfl ?_;have hyi:=HYi.o;subst hyi;rw [<-Hf.o];exact Fs hZ.o h0 HM.o HI.o HF.o jl.o HK.o HE.o W8.o AP.o (Or.inl rfl) (((((((((zO.Uk _ _ wr nq).set (Or.inl rfl) 3 _).set (Or.inl rfl) 4 _).set (Or.inr rfl) 0 _).set (Or.inr rfl) 1 _).set (Or.inr rfl) 2 _).set (Or.inr rfl) 3 _).set (Or.inr rfl) 4 _).drew)
 have Cw:=PS.bX hZ.o hat hlt.2
 go_wp2_with fail
 refine(bL HM.o.sd hZ.o [117,115,101]).mono ?_;rintro e w3 ⟨rfl,hb,fF⟩;rw [hat];have Dx:=aa (HM.o.go hb fF);have HI3:=aa (bW HI.o hb (by show w2.heap.size<_;omega));clear hb fF
 go_wp2_with fail
 refine(sg Dx.o.sd hZ.o).mono ?_;rintro e w4 ⟨y,rfl,hy,hb,fF⟩;have QQ:=aa (Dx.o.go hb fF);have HI4:=aa (bW HI3.o hb (by show w2.heap.size<_;omega));have HY:=aa hy;clear hb fF hy;unfold oF
 go_wp2_with fail
 refine(gX (QQ.o.sd.Db ((Below.refl _ _).alloc (Nat.le_refl _) _)) hZ.o [59]).mono ?_;rintro e w5 ⟨rfl,hb,fF⟩;have Si:=aa (QQ.o.go (((eh.refl _ _).alloc _).trans hb) fF);have Yq:=aa (bW HI4.o (((eh.refl _ _).alloc _).trans hb) (by show w2.heap.size<_;omega));have hw4:=af QQ.o.blk;have Jc:=aa (gN hb (by show w2.heap.size<_;omega));have hs5:=hb.size;simp at hs5;clear hb fF;obtain⟨so,sc,pM⟩:=ak Yq.o;subst pM;have c1:=ae Jc.o 1;have c2:=ae Jc.o 2;have m1:=ae Si.o.blk 1;have mf:=aj Si.o.blk;simp at c1 c2 m1
 have b1:k+1<=maxLen:=by unfold maxLen;omega
 have b2:(k+1)*24<=140737488355328:=by omega
 obtain⟨i0,hi,hz0,hz1,hz2⟩:=info_parts ug
 go_wp2_with (at_builtin;refine bC _ rfl _ _ 246 rfl (w2.heap.size+2) 260 i0 (.agg #[.string ⟨#[]⟩,.int .i64 0]) 2 24 underlying246 hi hz0 hz1 hz2 rfl (by decide) (.slice so k sc) k xs rfl (Yq.o.alloc _) ⟨w5.heap.size,0,none⟩ 1 1 [.string ⟨y.aX.toArray⟩,.int .i64 y.ai] rfl rfl (Pv w5 _ _ _) (aaf rfl rfl) (by omega) b1 b2 (by simp;omega) ?_)
 intro g' cap' w6 hown aB aJ;have HM6:=aa (Si.o.grown (aA aB) (λk e=>by have:=(aG Yq.o k e).1;omega));have HI6:=aa hown;have n1:=ae HM6.o.blk 1;have nf:=aj HM6.o.blk;have ns:=af HM6.o.blk;simp at n1;have HMn:=aa (HM6.o.W6 (.slice (some ⟨g',0,none⟩) (k+1) cap'));have oM:=aa (bK (o:=1) (u:=.slice (some ⟨g',0,none⟩) (k+1) cap') HI6.o (b:=w2.heap.size+1) (by omega));have oD:=aa (Pt hZ.o hat hlt.2);clear hown aB aJ c1 c2 m1 mf hi hz0 hz1 hz2;go_wp2
 go_roundg (gk-1)
 case measure=>omega
 case rel=>
  obtain⟨q1,q2,q3⟩:=oD.o;refine⟨_,il++ [(mQ ws st).1],_,k+1,_,?_,by omega,HMn,oM,?_,?_⟩
  ·rw [<-q1];simp only [PS.rem]at jh⊢;omega
  ·refine aa ?_
   rw [HC.o,<-q1];obtain⟨n,hn⟩:∃n,gk=n+1:=⟨gk-1,by omega⟩;rw [hn,S8 hat];simp
  ·refine aa (λhf=> ?_)
   rw [<-q1]at hf;obtain⟨f1,f2,f3⟩:=q3 hf;obtain⟨k1,k2⟩:=HK.o f1;have hy:=HY.o f2;refine⟨by rw [k1];simp,?_⟩;rw [k2,List.flatMap_append,f3,hy];simp [dI,dV]
def rB(n:List UInt8):List (List UInt8×RM)->Nat->Int
 | [],_=> -1
 |x::r,k=>if(x.1==n)&& !x.2.bad then(k:Int)else rB n r (k+1)
theorem jD(l:List (List UInt8×RM))(S:Nat->Prop)(w:World)(av:Value)(h:eL S w av l)(n:List UInt8):
  Calls prog 133 #[av,.string ⟨n.toArray⟩] w λe w'=>e=.returned (.int .i64 (rB n l 0))/\w'=w:=by
 have HF:=aa h.cells
 have se:∃o c,av=.slice o l.length c:=by
  rcases h.cells with⟨rfl,rfl⟩|⟨g,cap,rfl,_⟩
  ·exact⟨_,_,rfl⟩
  ·exact⟨_,_,rfl⟩
 obtain⟨fo,fc,rfl⟩:=se
 have QN:=aa (show l.length<=maxLen by rcases h.cells with⟨_,rfl⟩|⟨g,cap,_,_,h2,_⟩<;>first|(unfold maxLen;simp;done)|exact h2)
 clear h
 go_enter func133,ntmps133
 go_wp2
 go_loopw [5] (λiv wr=>∃j:Nat,j<=l.length/\iv=.int .i64 j/\Hy (rB n l 0=rB n (l.drop j) j)/\wr=w) (λiv _=>l.length-(intOf iv).toNat)
 case atStart=>exact⟨0,by omega,rfl,aa rfl,rfl⟩
 obtain⟨j,hj,rfl,HE,rfl⟩:=hrel
 by_cases hlt:j<l.length
 ·have E2:(j:Int)<(l.length:Int):=by omega
  have L2:(0:Int)<=(j:Int):=by omega
  have HD:=aa (si hlt)
  have hm:(j:Int)+1<=9223372036854775807:=by have:=QN.o;unfold maxLen at this;omega
  rcases HF.o with⟨hv,hnil⟩|⟨g,cap,hv,eP,gO,qU,hcs⟩
  ·rw [hnil]at hlt;simp at hlt
  ·injection hv with v1 v2 v3
   subst v1 v3;obtain⟨lv,iv,fv,c0,_,_,_,c4,_,_⟩:=hcs j hlt;clear hcs gO v2;obtain⟨x,hx⟩:∃x,x=l[j]:=⟨_,rfl⟩;rw [<-hx]at c0 c4 HD;have HX:=aa hx;clear hx;have HV:=aa (show rB n l 0=if(x.1==n)&& !x.2.bad then(j:Int)else rB n (l.drop (j+1)) (j+1) by rw [HE.o,HD.o];rfl)
   rcases h1:(x.1==n)with _|_
   ·have HN:=aa (show rB n l 0=rB n (l.drop (j+1)) (j+1) by rw [HV.o,h1];rfl)
    go_wp2
    go_roundw
    case rel=>exact⟨j+1,by omega,by go_num,HN,trivial⟩
    case measure=>simp [intOf];omega
   ·obtain⟨xp,Wy⟩:∃xp,xp=x.2.bad:=⟨_,rfl⟩
    rw [<-Wy]at c4 HV;have HXp:=aa Wy;clear Wy
    rcases xp with _|_
    ·have HN:=aa (show rB n l 0=(j:Int) by rw [HV.o,h1];rfl)
     go_wp2;go_ret;exact⟨by rw [HN.o];rfl,rfl⟩
    ·have HN:=aa (show rB n l 0=rB n (l.drop (j+1)) (j+1) by rw [HV.o,h1];rfl)
     go_wp2
     go_roundw
     case rel=>exact⟨j+1,by omega,by go_num,HN,trivial⟩
     case measure=>simp [intOf];omega
 have E2:¬(j:Int)<(l.length:Int):=by omega
 have HN:=aa (show rB n l 0= -1 by rw [HE.o,List.drop_eq_nil_of_le (by omega)];rfl);go_wp2;go_ret;exact⟨by rw [HN.o];rfl,rfl⟩
def l_:List Nat->List UInt8
 | []=> []
 |k::r=>ny k++r.flatMap λx=>44::ny x
theorem Ij(l:List Nat)(k:Nat):l_ (l++ [k])=if l= []then ny k else l_ l++ [44]++ny k:=by
 cases l with
 |nil=>simp [l_]
 |cons x r=>simp [l_]
theorem sr(k:Nat):(ny k).length<=4:=by unfold ny;split<;>decide
theorem BP(l:List Nat):(l_ l).length<=5*l.length:=by
 cases l with
 |nil=>simp [l_]
 |cons x r=>
  have h:∀r:List Nat,(r.flatMap λx=>44::ny x).length<=5*r.length:=by
   intro r
   induction r with
   |nil=>simp
   |cons y q ih=>have:=sr y;simp only [List.flatMap_cons,List.length_append,List.length_cons];omega
  have:=h r;have:=sr x;simp only [l_,List.length_append,List.length_cons];omega
def Ik(ks:List Nat)(k:Nat):List UInt8:=l_ ks++ [58]++ny k
theorem rC{t:Nat}(h:t=1\/t=2):iM t=ny (sT t):=by rcases h with rfl|rfl<;>rfl
theorem LM{q:List Nat}(hq:∀t∈q,t=1\/t=2):((q.map sT).flatMap λx=>44::ny x)=Lib.joinTail [44] (q.map iM):=by
 unfold Lib.joinTail
 induction q with
 |nil=>rfl
 |cons y q ih=>
  simp only [List.map_cons,List.flatMap_cons,List.flatten_cons];rw [ih (λt ht=>hq t (by simp [ht])),rC (hq y (by simp))]
  rfl
theorem LN{ps:List Nat}{r:Nat}(hp:∀t∈ps,t=1\/t=2)(hr:r=1\/r=2):Ik (ps.map sT) (sT r)=ja ps r:=by
 unfold Ik ja;rw [rC hr]
 have:l_ (ps.map sT)=Lib.join (ps.map iM) [44]:=by
  cases ps with
  |nil=>rfl
  |cons x q=>
   rw [List.map_cons,List.map_cons,Lib.join_cons,rC (hp x (by simp)),<-LM (λt ht=>hp t (by simp [ht]))]
   rfl
 rw [this]
theorem zP(w:World)(a0 a1 a2 a3 kv a6:Value)(ks:List Nat)(k:Nat)(h:w.ownsRow 0 5 1 kv ks.length (ks.map λ(k:Nat)=> .int .u8 k))(hk:ks.length<=1000000):
  Calls prog 239 #[.agg #[a0,a1,a2,a3,kv,.int .u8 k,a6]] w λe w'=>e=.returned (.string ⟨(Ik ks k).toArray⟩)/\Below w.heap.size w w':=by
 obtain⟨ko,kc,rfl⟩:=ak h;have HK:=aa (bZ h);clear h
 go_enter func239,ntmps239
 go_wp2
 go_loopw [3,4] (λsv iv wr=>∃j:Nat,j<=ks.length/\iv=.int .i64 j/\sv=.string ⟨(l_ (ks.take j)).toArray⟩/\Hy (∃o,wr=w.alloc o)/\wr.cell? ⟨w.heap.size,4,none⟩=some (.slice ko ks.length kc)/\wr.cell? ⟨w.heap.size,5,none⟩=some (.int .u8 k)) (λ_ iv _=>ks.length-(intOf iv).toNat)
 case atStart=>exact⟨0,by omega,rfl,rfl,aa ⟨_,rfl⟩,by simp,by simp⟩
 obtain⟨j,hj,rfl,rfl,HA,m4,m5⟩:=hrel
 by_cases hlt:j<ks.length
 ·have E2:(j:Int)<(ks.length:Int):=by omega
  have L2:(0:Int)<=(j:Int):=by omega
  have hm:(j:Int)+1<=9223372036854775807:=by omega
  rcases HK.o with⟨hv,hnil⟩|⟨g,cap,hv,tI,eP,gO,hcs,_⟩
  ·omega
  ·injection hv with v1 v2 v3
   subst v1 v3;have c0:=hcs j (by omega);rw [List.getElem?_map,List.getElem?_eq_getElem hlt]at c0;obtain⟨x,hx⟩:∃x,x=ks[j]:=⟨_,rfl⟩;rw [<-hx]at c0;simp only [Option.map_some]at c0
   have d0:wr.cell? ⟨g,j,none⟩=some (.int .u8 (x:Int)):=by
    obtain⟨o,rfl⟩:=HA.o;exact(((Below.refl w.heap.size w).alloc (Nat.le_refl _) o).cell eP).trans c0
   have cC:=aa (show l_ (ks.take (j+1))=if ks.take j= []then ny x else l_ (ks.take j)++ [44]++ny x by
    rw [hx,<-Ij,<-List.take_append_getElem hlt])
   have oT:(l_ (ks.take j)).length<=5*j:=by have:=BP (ks.take j);rw [List.length_take]at this;omega
   have hl2:=sr x;clear c0 hcs gO v2 hx
   by_cases h0:0<j
   ·have h0i:(0:Int)<(j:Int):=by omega
    have Z3:=aa (show ¬ks.take j= [] by intro e;have:=congrArg List.length e;simp only [List.length_take,List.length_nil]at this;omega);obtain⟨t,ht⟩:∃t,t=l_ (ks.take j):=⟨_,rfl⟩;rw [<-ht]at oT cC⊢;have HT:=aa ht;clear ht
    go_wp2_with fail
    refine(wJ x _).mono ?_;rintro e w1 ⟨rfl,rfl⟩;go_wp2
    go_roundw
    case rel=>exact⟨j+1,by omega,by go_num,by rw [cC.o,if_neg Z3.o];simp [tU],HA,m4,m5⟩
    case measure=>simp [intOf];omega
   ·have h0':j=0:=by omega
    subst h0';have Du:=aa hlt
    have ad8:(0:Int)<(ks.length:Int):=by omega
    have HS0:=aa (show l_ (ks.take 1)=ny x by rw [cC.o];rfl);rw [show l_ (List.take 0 ks)= []from rfl,show((0:Nat):Int)=(0:Int)from rfl];clear E2 hm L2 h0 oT hlt hj cC
    go_wp2_with fail
    refine(wJ x _).mono ?_;rintro e w1 ⟨rfl,rfl⟩;go_wp2
    go_roundw
    case rel=>exact⟨1,Du.o,by go_num,by rw [HS0.o];simp [tU],HA,m4,m5⟩
    case measure=>have:=Du.o;simp [intOf];omega
 have E2:¬(j:Int)<(ks.length:Int):=by omega
 have jU:j=ks.length:=by omega
 subst jU;rw [List.take_length];have oT:=BP ks;have hl2:=sr k
 go_wp2_with fail
 refine(wJ k _).mono ?_;rintro e w1 ⟨rfl,rfl⟩;go_wp2;go_ret;exact⟨by simp [Ik,tU],by obtain⟨o,rfl⟩:=HA.o;exact(Below.refl _ _).alloc (Nat.le_refl _) o⟩
def rD(n:List UInt8):List (List UInt8×RM)->Option RM
 | []=>none
 |x::r=>if(x.1==n)&& !x.2.bad then some x.2 else rD n r
theorem BQ(n:List UInt8)(l:List (List UInt8×RM))(k:Nat):(rB n l k= -1/\rD n l=none)\/∃j,∃h:j<l.length,rB n l k=((k+j:Nat):Int)/\rD n l=some l[j].2/\l[j].2.bad=false:=by
 induction l generalizing k with
 |nil=>exact Or.inl ⟨rfl,rfl⟩
 |cons x r ih=>
  unfold rB rD
  rcases hc:((x.1==n)&& !x.2.bad)with _|_
  ·rw [if_neg (by simp),if_neg (by simp)]
   rcases ih (k+1)with⟨a,b⟩|⟨j,h,a,b,c⟩
   ·exact Or.inl ⟨a,b⟩
   ·exact Or.inr ⟨j+1,by simpa using h,by rw [a];congr 1;omega,by simpa using b,by simpa using c⟩
  ·rw [if_pos rfl,if_pos rfl]
   simp only [Bool.and_eq_true,Bool.not_eq_true']at hc;exact Or.inr ⟨0,by simp,by simp,rfl,hc.2⟩
def JH(n:List UInt8)(p:Bool):List wK->Option wK
 | []=>none
 |f::r=>if(f.ag==n)&&(f.gW|| !p)then some f else JH n p r
theorem uj(n:List UInt8)(p:Bool)(l:List wK)(k:Nat):(jZ n p l k= -1/\JH n p l=none)\/∃j,∃h:j<l.length,jZ n p l k=((k+j:Nat):Int)/\JH n p l=some l[j]:=by
 induction l generalizing k with
 |nil=>exact Or.inl ⟨rfl,rfl⟩
 |cons x r ih=>
  unfold jZ JH
  rcases hc:((x.ag==n)&&(x.gW|| !p))with _|_
  ·rw [if_neg (by simp),if_neg (by simp)]
   rcases ih (k+1)with⟨a,b⟩|⟨j,h,a,b⟩
   ·exact Or.inl ⟨a,b⟩
   ·exact Or.inr ⟨j+1,by simpa using h,by rw [a];congr 1;omega,by simpa using b⟩
  ·rw [if_pos rfl,if_pos rfl]
   exact Or.inr ⟨0,by simp,by simp,rfl⟩
def dA(l:List (List UInt8×RM))(m n:List UInt8):List UInt8:=
 match rD m l with
 |none=> []
 |some x=>if n= []then [105,110,116,101,114,102,97,99,101]else match JH n true x.aR with
  |none=> []
  |some f=>Ik f.aef f.aL
def SH(l:List (List UInt8×RM)):Prop:=∀x∈l,x.2.bad=false->∀f∈x.2.aR,f.aef.length<=1000000
theorem kO.fn(h:kO S w v fs)(j:Nat)(hj:j<fs.length):
  ∃g cap po pn pc qo qn qc,v=.slice (some ⟨g,0,none⟩) fs.length cap/\g<w.heap.size/\S g/\w.cell? ⟨g,j*7,none⟩=some (.string ⟨fs[j].ag.toArray⟩)/\w.cell? ⟨g,j*7+1,none⟩=some (.int .i64 fs[j].ai)/\w.cell? ⟨g,j*7+2,none⟩=some (.bool fs[j].gW)/\
   w.cell? ⟨g,j*7+3,none⟩=some (.slice po pn pc)/\w.cell? ⟨g,j*7+4,none⟩=some (.slice qo qn qc)/\w.cell? ⟨g,j*7+5,none⟩=some (.int .u8 fs[j].aL)/\w.cell? ⟨g,j*7+6,none⟩=some (.int .i64 fs[j].br)/\
   cW S w 260 2 (.slice po pn pc) fs[j].ay.length (cD fs[j].ay)/\cW S w 5 1 (.slice qo qn qc) fs[j].aef.length (fs[j].aef.map λ(k:Nat)=> .int .u8 k):=by
 obtain⟨xs,ho,hx⟩:=h
 rcases bZ ho.1 with⟨rfl,h0⟩|⟨g,cap,rfl,hb,hlt,gO,hc,he⟩
 ·omega
 obtain⟨pv,kv,a,b,c⟩:=hx j hj;obtain⟨po,pc,rfl⟩:=ak b.1;obtain⟨qo,qc,rfl⟩:=ak c.1
 have hc':∀o,o<7->w.cell? ⟨g,j*7+o,none⟩=(r9 fs[j] (.slice po fs[j].ay.length pc) (.slice qo fs[j].aef.length qc))[o]?:=λo ho=>(hc _ (by omega)).trans (a o ho)
 exact⟨g,cap,po,_,pc,qo,_,qc,rfl,hlt,ho.2 g he,hc' 0 (by omega),hc' 1 (by omega),hc' 2 (by omega),hc' 3 (by omega),hc' 4 (by omega),hc' 5 (by omega),hc' 6 (by omega),b,c⟩
theorem jr.below{lv iv fv:Value}(h:jr S w lv iv fv m)(hb:Below w.heap.size w w'):jr S w' lv iv fv m:=h.keep λk hS hk=>⟨hS,hb.block k hk⟩
theorem eL.below(h:eL S w v l)(hb:Below w.heap.size w w'):eL S w' v l:=h.keep λk hS hk=>⟨hS,hb.block k hk⟩
theorem kO.below(h:kO S w v fs)(hb:Below w.heap.size w w'):kO S w' v fs:=h.keep λk hS hk=>⟨hS,hb.block k hk⟩
theorem BR(l:List (List UInt8×RM))(S:Nat->Prop)(w:World)(av:Value)(h:eL S w av l)(hz:SH l)(m n:List UInt8):
  Calls prog 185 #[av,.string ⟨m.toArray⟩,.string ⟨n.toArray⟩] w λe w'=>e=.returned (.string ⟨(dA l m n).toArray⟩)/\Below w.heap.size w w':=by
 have HA:=aa h;have HZ:=aa hz;clear h hz
 rcases BQ m l 0 with⟨e1,e2⟩|⟨j,hj,e1,e2,e3⟩
 ·have HR:=aa (show dA l m n= [] by unfold dA;rw [e2])
  have HM:=aa e1;clear e1 e2
  go_enter func185,ntmps185
  go_wp2_with fail
  refine(jD l S w av HA.o m).mono ?_;rintro e w1 ⟨rfl,rfl⟩;rw [HM.o];go_wp2;go_ret;exact⟨by rw [HR.o];rfl,Below.refl _ _⟩
 rcases HA.o.cells with⟨_,rfl⟩|⟨g,cap,rfl,eP,gO,qU,hcs⟩
 ·simp at hj
 obtain⟨lv,iv,fv,c0,c1,c2,c3,c4,c5,hM⟩:=hcs j hj;have HM:=aa hM;have Gl:=aa (show rB m l 0=(j:Int) by rw [e1];congr 1;omega);have Mu:=aa e2;have Ki:=aa e3;obtain⟨⟨lo,ln,lc,rfl⟩,⟨io,Fw,ic,rfl⟩,⟨fo,fn,fc,rfl⟩⟩:=hM.sh;have Uo:=(hM.ok e3).2.2;have lO:=aa Uo;have OM:=aa (show l[j]∈l from List.getElem_mem hj)
 have LB:(j:Int)<(l.length:Int):=by omega
 have QR:¬(j:Int)<0:=by omega
 clear e1 e2 e3 hM hcs Uo;generalize l[j]=x at*
 by_cases hn:n= []
 ·subst hn
  have HR:=aa (show dA l m []= [105,110,116,101,114,102,97,99,101] by unfold dA;rw [Mu.o];rfl)
  go_enter func185,ntmps185
  go_wp2_with fail
  refine(jD l S w _ HA.o m).mono ?_;rintro e w1 ⟨rfl,rfl⟩;rw [Gl.o];go_wp2;go_ret;exact⟨by rw [HR.o];rfl,Below.refl _ _⟩
 have wG:(n== [])=false:=by simpa using hn
 rcases uj n true x.2.aR 0 with⟨f1,f2⟩|⟨k,hk,f1,f2⟩
 ·have HR:=aa (show dA l m n= [] by unfold dA;rw [Mu.o];simp only [if_neg hn,f2])
  have vN:=aa f1;clear f1 f2
  go_enter func185,ntmps185
  go_wp2_with fail
  refine(jD l S w _ HA.o m).mono ?_;rintro e w1 ⟨rfl,rfl⟩;rw [Gl.o]
  go_wp2_with fail
  refine(pD x.2.aR 0 _ _ _ _ _ _ lO.o.row n true).mono ?_;rintro e w2 ⟨rfl,hb⟩;rw [vN.o];have HB:=aa hb;clear hb;go_wp2;go_ret;exact⟨by rw [HR.o];rfl,HB.o⟩
 have HR:=aa (show dA l m n=Ik x.2.aR[k].aef x.2.aR[k].aL by unfold dA;rw [Mu.o];simp only [if_neg hn,f2]);have vN:=aa (show jZ n true x.2.aR 0=(k:Int) by rw [f1];congr 1;omega);obtain⟨g2,wN,po,pn,pc,qo,qn,qc,hv,hg2,hS2,d0,d1,d2,d3,d4,d5,d6,hp,hq⟩:=lO.o.fn k hk
 injection hv with v1 v2 v3
 subst v1 v2 v3
 have hk2:(k:Int)<(x.2.aR.length:Int):=by omega
 have hk3:¬(k:Int)<0:=by omega
 have HQ:=aa hq;have RU:=aa (HZ.o x OM.o Ki.o x.2.aR[k] (List.getElem_mem hk));clear f1 f2 hp hq;generalize x.2.aR[k]=f at*
 go_enter func185,ntmps185
 go_wp2_with fail
 refine(jD l S w _ HA.o m).mono ?_;rintro e w1 ⟨rfl,rfl⟩;rw [Gl.o]
 go_wp2_with fail
 refine(pD x.2.aR 0 _ _ _ _ _ _ lO.o.row n true).mono ?_;rintro e w2 ⟨rfl,hb⟩;rw [vN.o];have HB:=aa hb;have c3':=(hb.cell eP).trans c3;have d0':=(hb.cell hg2).trans d0;have d1':=(hb.cell hg2).trans d1;have d2':=(hb.cell hg2).trans d2;have d3':=(hb.cell hg2).trans d3;have d4':=(hb.cell hg2).trans d4;have d5':=(hb.cell hg2).trans d5;have d6':=(hb.cell hg2).trans d6;clear hb c0 c1 c2 c3 c4 c5 d0 d1 d2 d3 d4 d5 d6
 go_wp2_with fail
 refine(zP w2 _ _ _ _ _ _ f.aef f.aL (HQ.o.keep (S':=S) λk hS hk=>⟨hS,HB.o.block k hk⟩).1 RU.o).mono ?_;rintro e w3 ⟨rfl,hb3⟩;have dy:=aa (HB.o.trans (hb3.mono HB.o.size));clear hb3;go_wp2;go_ret;exact⟨by rw [HR.o];rfl,dy.o⟩
structure fX (lo:Nat) (w w':World):Prop where
 os:w'.os=w.os
 tape:w'.tape=w.tape
 output:w'.output=w.output
 size:w.heap.size<=w'.heap.size
 block:∀k,k<w.heap.size->(k<lo\/∃c t f,w.heap[k]?=some (.cells c t f)/\t≠318/\t≠253/\t≠185)->w'.heap[k]?=w.heap[k]?
theorem fX.refl(lo:Nat)(w:World):fX lo w w:=⟨rfl,rfl,rfl,Nat.le_refl _,λ_ _ _=>rfl⟩
theorem fX.trans{a b c:World}(h:fX lo a b)(k:fX lo b c):fX lo a c:=
 ⟨k.os.trans h.os,k.tape.trans h.tape,k.output.trans h.output,Nat.le_trans h.size k.size,λi hi hx=>by
  have e:=h.block i hi hx;refine(k.block i (Nat.lt_of_lt_of_le hi h.size) ?_).trans e
  rcases hx with hx|⟨c,t,f,a,b⟩
  ·exact Or.inl hx
  ·exact Or.inr ⟨c,t,f,e.trans a,b⟩⟩
theorem fX.aW(h:Below w.heap.size w w'):fX lo w w':=⟨h.os,h.tape,h.output,h.size,λk hk _=>h.block k hk⟩
theorem fX.alloc(h:fX lo w w')(o:Obj):fX lo w (w'.alloc o):=h.trans (.aW ((Below.refl _ _).alloc (Nat.le_refl _) o))
theorem fX.drew(h:fX lo w w'):fX lo w w'.drew:=h.trans (.aW ((Below.refl _ _).drew))
theorem fX.drewN(h:fX lo w w')(n:Nat):fX lo w (w'.drewN n):=h.trans ⟨rfl,rfl,rfl,Nat.le_refl _,λ_ _ _=>rfl⟩
theorem fX.set(h:w.heap[cb]?=some (.cells c 318 f))(tI:lo<=cb)(o:Nat)(u:Value):fX lo w (w.setCell ⟨cb,o,none⟩ u):=by
 refine⟨rfl,rfl,rfl,by simp [World.setCell],λk hk hx=>Below.heap_setCell _ _ _ _ ?_⟩;show k≠cb
 rcases hx with hx|⟨c',t,f',a,b,_⟩
 ·omega
 rintro rfl;rw [h]at a
 injection a with a
 injection a with _ e _
 exact b e.symm
theorem fX.grown{t:TypeId}(h:w.ownsRow lo t size v n xs)(ht:t=253\/t=185)(hg:w.grownBy w' v.ownBlock):fX lo w w':=by
 refine⟨hg.os,hg.tape,hg.output,hg.size,λk hk hx=>hg.block k hk λe=> ?_⟩
 rcases h.2 with⟨rfl,_⟩|⟨g,cap,aU,rfl,hb,hc,_⟩
 ·simp [Value.ownBlock]at e
 simp [Value.ownBlock]at e;subst e
 rcases hx with hx|⟨c',t',f',a,b,b2,b3⟩
 ·omega
 rw [hc]at a
 injection a with a
 injection a with _ e _
 rcases ht with rfl|rfl
 ·exact b2 e.symm
 exact b3 e.symm
structure CX where
 cb:Nat
 lo:Nat
 g:Nat
 cap:Nat
 av:Value
 iv:Value
 fv:Value
 pl:Nat
 S:Nat->Prop
 all:List (List UInt8×RM)
 me:RM
variable{X:CX}
abbrev CX.lv(X:CX):Value:=.slice (some ⟨X.g,0,none⟩) X.me.ws.length X.cap
def jd(F:List (Nat×Nat)):List Value:=F.flatMap λx=> [.int .i64 x.1,.int .i64 x.2]
abbrev OkC(c:Nat):Prop:=c=3\/c=5\/c=6\/c=7\/c=8
structure Ck (X:CX) (i:Nat) (F:List (Nat×Nat)) (U:List Us) (w:World):Prop where
 mem:∃fo fc uo uc,w.heap[X.cb]?=some (.cells #[X.av,X.lv,X.iv,X.fv,.bool false,.int .i64 X.pl,.int .i64 i,.slice fo F.length fc,.slice uo U.length uc] 318 (0,0))/\
  w.ownsRow X.lo 253 2 (.slice fo F.length fc) F.length (jd F)/\w.ownsRow X.lo 185 3 (.slice uo U.length uc) U.length (bo U)
 Gy:X.lo<=X.cb
 bad:X.me.bad=false
 hS:∀k,X.S k->k<X.lo
 me:jr X.S w X.lv X.iv X.fv X.me
 all:eL X.S w X.av X.all
 xu:∀x∈F,OkC x.1
 nd:(U.map λu=>(u.m,u.n)).Nodup
theorem Ck.lt(h:Ck X i F U w):X.cb<w.heap.size:=by
 obtain⟨_,_,_,_,hb,_⟩:=h.mem;exact af hb
theorem Ck.row(h:Ck X i F U w):lT X.g (X.me.ws.map dV) w/\X.g<X.lo:=by
 obtain⟨⟨g,cap,a,b,c⟩,_⟩:=h.me.ok h.bad
 injection a with a1 a2 a3
 injection a1 with a1
 injection a1 with a1
 subst a1;exact⟨c,h.hS _ b⟩
theorem Ck.fr{i':Nat}(h:Ck X i F U w)(hf:fX X.lo w w')(hm:∃fo fc uo uc,w'.heap[X.cb]?=some (.cells #[X.av,X.lv,X.iv,X.fv,.bool false,.int .i64 X.pl,.int .i64 i',.slice fo F'.length fc,.slice uo U'.length uc] 318 (0,0))/\
   w'.ownsRow X.lo 253 2 (.slice fo F'.length fc) F'.length (jd F')/\w'.ownsRow X.lo 185 3 (.slice uo U'.length uc) U'.length (bo U'))(hc:∀x∈F',OkC x.1)(hd:(U'.map λu=>(u.m,u.n)).Nodup):Ck X i' F' U' w':=
 ⟨hm,h.Gy,h.bad,h.hS,h.me.keep λk hS hk=>⟨hS,hf.block k hk (Or.inl (h.hS k hS))⟩,h.all.keep λk hS hk=>⟨hS,hf.block k hk (Or.inl (h.hS k hS))⟩,hc,hd⟩
theorem Ck.below(h:Ck X i F U w)(hb:Below w.heap.size w w'):Ck X i F U w':=by
 refine h.fr (.aW hb) ?_ h.xu h.nd;obtain⟨fo,fc,uo,uc,a,b,c⟩:=h.mem;exact⟨fo,fc,uo,uc,(hb.block _ (af a)).trans a,aM b (λg e=>hb.block g (aQ b g e).2),aM c (λg e=>hb.block g (aQ c g e).2)⟩
theorem Ck.alloc(h:Ck X i F U w)(o:Obj):Ck X i F U (w.alloc o):=h.below ((Below.refl _ _).alloc (Nat.le_refl _) o)
theorem Ck.drew(h:Ck X i F U w):Ck X i F U w.drew:=h.below ((Below.refl _ _).drew)
theorem Ck.drewN(h:Ck X i F U w)(n:Nat):Ck X i F U (w.drewN n):=h.below ⟨rfl,rfl,rfl,Nat.le_refl _,λ_ _=>rfl⟩
theorem Ck.to(h:Ck X i F U w)(j:Nat):fX X.lo w (w.setCell ⟨X.cb,6,none⟩ (.int .i64 j))/\Ck X j F U (w.setCell ⟨X.cb,6,none⟩ (.int .i64 j)):=by
 obtain⟨fo,fc,uo,uc,a,b,c⟩:=h.mem;have hf:=fX.set a h.Gy 6 (.int .i64 j)
 have hne:∀{t:TypeId} {size n:Nat} {v:Value} {xs:List Value},w.ownsRow X.lo t size v n xs->t≠318->v.ownBlock≠some X.cb:=by
  intro t size n v xs ho ht e
  rcases ho.2 with⟨rfl,_⟩|⟨g,cap,aU,rfl,hb,hc,_⟩
  ·simp [Value.ownBlock]at e
  ·simp [Value.ownBlock]at e
   subst e;rw [a]at hc
   injection hc with hc
   injection hc with _ e _
   exact ht e.symm
 exact⟨hf,h.fr hf ⟨fo,fc,uo,uc,ax a 6 _,a8 b (hne b (by decide)) _ _,a8 c (hne c (by decide)) _ _⟩ h.xu h.nd⟩
def JI(ws:List Wd)(i:Nat)(s:List UInt8):Bool:=(ws.getD i ⟨0,[],0⟩).aL==4&&(ws.getD i ⟨0,[],0⟩).aX==s
theorem cP(ws:List Wd)(st:PS)(s:List UInt8):st.aN ws [s]=JI ws st.i s:=by
 unfold PS.aN JI PS.aU;rw [Bool.eq_iff_iff];simp
theorem P7(hi:i<ws.length)(s:List UInt8):qm ((ws.map dV)[i]'(by rw [List.length_map];exact hi)) s=JI ws i s:=by
 rw [List.getElem_map,O_];unfold JI;simp [List.getD,hi]
theorem Il:(prog.info? 253).map (λi=>(i.zero,i.size,i.bytes))=some (some (.agg #[.int .i64 0,.int .i64 0]),2,16):=by kernel_rfl
theorem aap(w:World)(a b:Value)(t:TypeId):∀j u,[a,b][j]?=some u->(w.alloc (.cells #[a,b] t)).cell? ((⟨w.heap.size,0,none⟩:Addr).add j)=some u:=by
 intro j u hj
 match j,hj with
 |0,hj=>simp at hj;subst hj;simp [Addr.add]
 |1,hj=>simp at hj;subst hj;simp [Addr.add]
theorem Up{b:Value}(ha:a.oneCell'=true)(hb:b.oneCell'=true):∀u∈ [a,b],u.oneCell'=true:=by
 intro u hu;simp only [List.mem_cons,List.not_mem_nil,or_false]at hu
 rcases hu with rfl|rfl<;>assumption
theorem Ck.WL(h:Ck X i F U w)(hb:w.heap[X.cb]?=some (.cells #[X.av,X.lv,X.iv,X.fv,.bool false,.int .i64 X.pl,.int .i64 i,.slice fo F.length fc,.slice uo U.length uc] 318 (0,0)))(h1:w.ownsRow X.lo 253 2 (.slice fo F.length fc) F.length (jd F))(h2:w.ownsRow X.lo 185 3 (.slice uo U.length uc) U.length (bo U))(hg:(w.alloc o).grownBy w' (Value.slice fo F.length fc).ownBlock)(ho:w'.ownsRow X.lo 253 2 (.slice (some ⟨g',0,none⟩) F'.length cap') F'.length (jd F'))(hcs:∀x∈F',OkC x.1):
  fX X.lo w (w'.setCell ⟨X.cb,7,none⟩ (.slice (some ⟨g',0,none⟩) F'.length cap'))/\Ck X i F' U (w'.setCell ⟨X.cb,7,none⟩ (.slice (some ⟨g',0,none⟩) F'.length cap')):=by
 have hlt:=af hb;have hf1:fX X.lo w w':=((fX.refl X.lo w).alloc o).trans (fX.grown (h1.alloc o) (Or.inl rfl) hg)
 have hb':w'.heap[X.cb]?=some (.cells #[X.av,X.lv,X.iv,X.fv,.bool false,.int .i64 X.pl,.int .i64 i,.slice fo F.length fc,.slice uo U.length uc] 318 (0,0)):=by
  refine((aA hg).block _ hlt λe=> ?_).trans hb
  rcases h1.2 with⟨hv,_⟩|⟨g,cap,aU,hv,_,hc,_⟩
  ·rw [hv]at e;simp [Value.ownBlock]at e
  ·rw [hv]at e;simp [Value.ownBlock]at e
   subst e;rw [hb]at hc
   injection hc with hc
   injection hc with _ e _
   exact absurd e (by decide)
 have EL:=dL (h2.alloc o) (h1.alloc o) (by decide) hg
 have hne:∀{t:TypeId} {size n:Nat} {v:Value} {xs:List Value},w'.ownsRow X.lo t size v n xs->t≠318->v.ownBlock≠some X.cb:=by
  intro t size n v xs ho ht e
  rcases ho.2 with⟨rfl,_⟩|⟨g,cap,aU,rfl,hb,hc,_⟩
  ·simp [Value.ownBlock]at e
  ·simp [Value.ownBlock]at e
   subst e;rw [hb']at hc
   injection hc with hc
   injection hc with _ e _
   exact ht e.symm
 have hf:=hf1.trans (fX.set hb' h.Gy 7 (.slice (some ⟨g',0,none⟩) F'.length cap'));exact⟨hf,h.fr hf ⟨_,_,uo,uc,ax hb' 7 _,a8 ho (hne ho (by decide)) _ _,a8 EL (hne EL (by decide)) _ _⟩ hcs h.nd⟩
theorem je(h:Ck X i F U w)(c p:Nat)(hF:F.length<=1000000000)(bp:OkC c:=by decide):
  Calls prog 188 #[.pointer (some ⟨X.cb,0,none⟩),.int .i64 c,.int .i64 p] w λe w'=>e=.returned (.tuple #[])/\fX X.lo w w'/\Ck X i (F++ [(c,p)]) U w':=by
 obtain⟨fo,fc,uo,uc,hb,h1,h2⟩:=h.mem;have c7:=ae hb 7;have cf:=aj hb;have cl:=af hb;have HC:=aa h;have HB:=aa hb;have H1:=aa h1;have H2:=aa h2;have hlc:=h.Gy;have iD:=aa bp;simp at c7;clear h hb h1 h2 bp
 have b1:F.length+1<=maxLen:=by unfold maxLen;omega
 have b2:(F.length+1)*16<=140737488355328:=by omega
 go_enter func188,ntmps188
 obtain⟨i0,hi,hz0,hz1,hz2⟩:=info_parts Il
 go_wp2_with (at_builtin;refine bC _ rfl _ _ 316 rfl X.lo 253 i0 (.agg #[.int .i64 0,.int .i64 0]) 2 16 underlying316 hi hz0 hz1 hz2 rfl (by decide) (.slice fo F.length fc) F.length (jd F) rfl (H1.o.alloc _) ⟨w.heap.size,0,none⟩ 1 1 [.int .i64 c,.int .i64 p] rfl rfl (aap w _ _ _) (Up rfl rfl) (by omega) b1 b2 (by simp;omega) ?_)
 intro g' cap' w6 hown aB aJ
 have hk:=HC.o.WL (F':=F++ [(c,p)]) (g':=g') (cap':=cap') HB.o H1.o H2.o aB (by simpa [jd]using hown) (λx hx=>by
  rcases List.mem_append.1 hx with hx|hx
  ·exact HC.o.xu x hx
  ·simp at hx;subst hx;exact iD.o)
 have HK:=aa hk
 have hl:(F++ [(c,p)]).length=F.length+1:=by simp
 rw [hl]at HK
 have kz:w6.heap[X.cb]?=w.heap[X.cb]?:=(aA aB).block _ cl λe=>by
  rcases H1.o.2 with⟨hv,_⟩|⟨g,cap,aU,hv,_,hc,_⟩
  ·rw [hv]at e;simp [Value.ownBlock]at e
  ·rw [hv]at e;simp [Value.ownBlock]at e
   subst e;rw [HB.o]at hc
   injection hc with hc
   injection hc with _ e _
   exact absurd e (by decide)
 have d7:=ae (kz.trans HB.o) 7;have df:=aj (kz.trans HB.o);have dl:=af (kz.trans HB.o);simp at d7;clear hown aB aJ hk hl hi hz0 hz1 hz2 kz c7 cf cl;go_wp2
 ((try simp only [Exit.inBlock,Exit.then]);first|refine bodyPost_end (results_none rfl _ _ _) rfl ?_|refine bodyPost_ret (results_none rfl _ _ _) rfl ?_)
 exact⟨rfl,HK.o⟩
theorem cE(h:Ck X i F U w)(hi:i<X.me.ws.length)(s:List UInt8):
  Calls prog 271 #[.pointer (some ⟨X.cb,0,none⟩),.string ⟨s.toArray⟩] w λe w'=>e=.returned (.bool (JI X.me.ws i s))/\fX X.lo w w'/\Ck X (if JI X.me.ws i s then i+1 else i) F U w':=by
 obtain⟨fo,fc,uo,uc,hb,h1,h2⟩:=h.mem;have c1:=ae hb 1;have c6:=ae hb 6;have cf:=aj hb;have cl:=af hb;simp at c1 c6;have HC:=aa h;have hsm:=h.row.1.small;have HI:=aa (λw' (hr:lT X.g (X.me.ws.map dV) w')=>zF X.g X.cap (X.me.ws.map dV) i (by rw [List.length_map];exact hi) s w' hr);rw [P7 hi,List.length_map]at HI;rw [List.length_map]at hsm;clear h hb h1 h2;generalize JI X.me.ws i s=b at*
 rcases b with _|_
 ·go_enter func271,ntmps271
  go_wp2
  go_quiet ((go_at_call 265;exact Calls.quiet_of_same (HI.o _ (HC.o.drewN _).row.1)))
  go_wp2;go_ret;exact⟨rfl,(fX.refl _ _).drewN _,HC.o.drewN _⟩
 have HT:=aa (λn=>(HC.o.drewN n).to (i+1))
 go_enter func271,ntmps271
 go_wp2
 go_quiet ((go_at_call 265;exact Calls.quiet_of_same (HI.o _ (HC.o.drewN _).row.1)))
 go_wp2;go_ret;exact⟨rfl,((fX.refl _ _).drewN _).trans (HT.o _).1,(HT.o _).2⟩
theorem Ck.aeg(h:Ck X i F U w)(hb:w.heap[X.cb]?=some (.cells #[X.av,X.lv,X.iv,X.fv,.bool false,.int .i64 X.pl,.int .i64 i,.slice fo F.length fc,.slice uo U.length uc] 318 (0,0)))(h1:w.ownsRow X.lo 253 2 (.slice fo F.length fc) F.length (jd F))(h2:w.ownsRow X.lo 185 3 (.slice uo U.length uc) U.length (bo U))(hg:(w.drew.alloc o).grownBy w' (Value.slice uo U.length uc).ownBlock)(ho:w'.ownsRow X.lo 185 3 (.slice (some ⟨g',0,none⟩) U'.length cap') U'.length (bo U'))(hnd:(U'.map λu=>(u.m,u.n)).Nodup):
  fX X.lo w (w'.setCell ⟨X.cb,8,none⟩ (.slice (some ⟨g',0,none⟩) U'.length cap'))/\Ck X i F U' (w'.setCell ⟨X.cb,8,none⟩ (.slice (some ⟨g',0,none⟩) U'.length cap')):=by
 have hlt:=af hb;have hf1:fX X.lo w w':=((fX.refl X.lo w).drew.alloc o).trans (fX.grown ((World.ownsRow.drew h2).alloc o) (Or.inr rfl) hg)
 have hb':w'.heap[X.cb]?=some (.cells #[X.av,X.lv,X.iv,X.fv,.bool false,.int .i64 X.pl,.int .i64 i,.slice fo F.length fc,.slice uo U.length uc] 318 (0,0)):=by
  refine((aA hg).block _ (by show X.cb<w.drew.heap.size;exact hlt) λe=> ?_).trans hb
  rcases h2.2 with⟨hv,_⟩|⟨g,cap,aU,hv,_,hc,_⟩
  ·rw [hv]at e;simp [Value.ownBlock]at e
  ·rw [hv]at e;simp [Value.ownBlock]at e
   subst e;rw [hb]at hc
   injection hc with hc
   injection hc with _ e _
   exact absurd e (by decide)
 have MM:=dL ((World.ownsRow.drew h1).alloc o) ((World.ownsRow.drew h2).alloc o) (by decide) hg
 have hne:∀{t:TypeId} {size n:Nat} {v:Value} {xs:List Value},w'.ownsRow X.lo t size v n xs->t≠318->v.ownBlock≠some X.cb:=by
  intro t size n v xs ho ht e
  rcases ho.2 with⟨rfl,_⟩|⟨g,cap,aU,rfl,hb,hc,_⟩
  ·simp [Value.ownBlock]at e
  ·simp [Value.ownBlock]at e
   subst e;rw [hb']at hc
   injection hc with hc
   injection hc with _ e _
   exact ht e.symm
 have hf:=hf1.trans (fX.set hb' h.Gy 8 (.slice (some ⟨g',0,none⟩) U'.length cap'));exact⟨hf,h.fr hf ⟨fo,fc,_,_,ax hb' 8 _,a8 MM (hne MM (by decide)) _ _,a8 ho (hne ho (by decide)) _ _⟩ h.xu hnd⟩
def Gz(l:List (List UInt8×RM))(x:Nm×Nm):List UInt8:=dA l x.1 x.2
abbrev eQ(l:List (List UInt8×RM))(K:List (Nm×Nm)):List Us:=K.map (Sj (Gz l))
def lU(K:List (Nm×Nm))(x:Nm×Nm):List (Nm×Nm):=if x∈K then K else K++ [x]
theorem wP(l:List (List UInt8×RM))(K:List (Nm×Nm)):bo (eQ l K)=dz (Gz l) K:=by
 unfold bo dz eQ;rw [List.flatMap_map]
 rfl
theorem Fx(l:List (List UInt8×RM))(K:List (Nm×Nm)):(eQ l K).map (λu=>(u.m,u.n))=K:=by
 unfold eQ;rw [List.map_map];exact(List.map_congr_left λx _=>rfl).trans (List.map_id K)
theorem kQ{sf:Nm×Nm->List UInt8}(h:w.ownsRow lo 185 3 v K.length (dz sf K))(j:Nat)(hj:j<K.length):
  ∃g cap,v=.slice (some ⟨g,0,none⟩) K.length cap/\g<w.heap.size/\w.cell? ⟨g,j*3,none⟩=some (.string ⟨K[j].1.toArray⟩)/\w.cell? ⟨g,j*3+1,none⟩=some (.string ⟨K[j].2.toArray⟩)/\w.cell? ⟨g,j*3+2,none⟩=some (.string ⟨(sf K[j]).toArray⟩):=by
 rcases bZ h with⟨rfl,h0⟩|⟨g,cap,rfl,hb,hlt,gO,hc,he⟩
 ·omega
 have:=qR sf K j hj;exact⟨g,cap,rfl,hlt,(hc _ (by omega)).trans this.1,(hc _ (by omega)).trans this.2.1,(hc _ (by omega)).trans this.2.2⟩
theorem aaq(hb:w.heap[cb]?=some (.cells c 318 f)){t:TypeId}(ho:w.ownsRow lo t size v n xs)(ht:t≠318):v.ownBlock≠some cb:=by
 intro e
 rcases ho.2 with⟨rfl,_⟩|⟨g,cap,aU,rfl,_,hc,_⟩
 ·simp [Value.ownBlock]at e
 simp [Value.ownBlock]at e;subst e;rw [hb]at hc
 injection hc with hc
 injection hc with _ e _
 exact ht e.symm
theorem Fy(h:Ck X i F (eQ X.all K) w)(hz:SH X.all)(hK:K.length<=1000000000)(m n:List UInt8):
  Calls prog 187 #[.pointer (some ⟨X.cb,0,none⟩),.string ⟨m.toArray⟩,.string ⟨n.toArray⟩] w λe w'=>
   e=.returned (.string ⟨(dA X.all m n).toArray⟩)/\fX X.lo w w'/\Ck X i F (eQ X.all (lU K (m,n))) w':=by
 obtain⟨fo,fc,uo,uc,hb,h1,h2⟩:=h.mem;have c0:=ae hb 0;have cl:=af hb;simp at c0;have HC:=aa h;have HZ:=aa hz;have Ze:=aa (show(eQ X.all K).length=K.length by simp);clear h hb h1 h2 hz
 go_enter func187,ntmps187
 go_wp2_with fail
 refine(BR X.all X.S w X.av HC.o.all HZ.o m n).mono ?_;rintro e w1 ⟨rfl,hb1⟩;have nJ:=aa (HC.o.below hb1);have eC:=aa (fX.aW (lo:=X.lo) hb1);clear hb1 c0 cl;have hs1:=nJ.o.lt;obtain⟨sn,WM⟩:∃sn,sn=dA X.all m n:=⟨_,rfl⟩;rw [<-WM];have cC:=aa WM;clear WM;have HU1:=aa (aF w1 (.cells #[.string ⟨m.toArray⟩,.string ⟨n.toArray⟩,.string ⟨sn.toArray⟩] 185))
 go_wp2_with fail
 go_loopg [9] K.length (λnn iv wr=>∃j:Nat,nn+j=K.length/\iv=.int .i64 j/\Hy ((m,n)∉K.take j)/\Hy (fX X.lo w wr)/\Hy (Ck X i F (eQ X.all K) wr)/\Hy (wr.heap[w1.heap.size]?=some (.cells #[.string ⟨m.toArray⟩,.string ⟨n.toArray⟩,.string ⟨sn.toArray⟩] 185 (0,0)))/\X.cb<w1.heap.size)
 case atStart=>exact⟨0,by omega,rfl,aa (by simp),aa (eC.o.alloc _),aa (nJ.o.alloc _),HU1,hs1⟩
 obtain⟨j,hj,rfl,F4,HB,nG,HUb,hcb⟩:=hrel;obtain⟨fo',fc',WN,WO,hb',MM,EL⟩:=nG.o.mem;have c8:=ae hb' 8;have cf:=aj hb';have cl:=af hb';have u0:=ae HUb.o 0;have u1:=ae HUb.o 1;have u2:=ae HUb.o 2;have ul:=af HUb.o;have aca:=aa EL;simp only [List.length_map]at EL;rw [wP]at EL;simp at c8 u0 u1 u2;have WQ:=aa hb';have HH1:=aa MM;have Yt:=aa EL;clear hb' MM EL
 by_cases hlt:j<K.length
 ·have eu:(j:Int)<(K.length:Int):=by omega
  have L2:(j:Int)+1<=9223372036854775807:=by omega
  obtain⟨g,cap,hv,eP,d0,d1,d2⟩:=kQ Yt.o j hlt
  injection hv with v1 v2 v3
  subst v1 v3;have HSf:=aa (show Gz X.all (m,n)=sn by rw [cC.o];rfl)
  have heq:∀w,(Op.equalIn 10000 185 (.agg #[.string ⟨K[j].1.toArray⟩,.string ⟨K[j].2.toArray⟩,.string ⟨(Gz X.all K[j]).toArray⟩]) (.agg #[.string ⟨m.toArray⟩,.string ⟨n.toArray⟩,.string ⟨sn.toArray⟩])).run prog w=.ok (decide (K[j]=(m,n))) w:=λw=>by
   have:=rT (Gz X.all) K[j] (m,n) w;unfold Kr at this;rw [HSf.o]at this;exact this
  have hgd:∀op a b w,(eqGuard op 185 a b (.agg #[.string ⟨K[j].1.toArray⟩,.string ⟨K[j].2.toArray⟩,.string ⟨(Gz X.all K[j]).toArray⟩]) (.agg #[.string ⟨m.toArray⟩,.string ⟨n.toArray⟩,.string ⟨sn.toArray⟩])).run prog w=.ok () w:=λop a b w=>run_eqGuard_agg w op 185 a b _ _ (by kernel_rfl)
  have OM:=aa (show K[j]∈K from List.getElem_mem hlt);have ou:=aa (List.take_succ_eq_append_getElem hlt);clear v2;generalize Gz X.all K[j]=sj at*;generalize K[j]=kj at*
  by_cases he:kj=(m,n)
  ·rw [decide_eq_true he]at heq
   have HAd:=aa (show lU K (m,n)=K by unfold lU;rw [if_pos (he▸OM.o)]);have HE:=aa he;clear he
   go_wp2_with fail
   go_quiet (fail)
   go_wp2;go_ret;exact⟨by rw [<-cC.o];rfl,HB.o.drewN _,by rw [HAd.o];exact nG.o.drewN _⟩
  ·rw [decide_eq_false he]at heq
   have HNn:=aa (show(m,n)∉K.take (j+1) by rw [ou.o];intro hm;rcases List.mem_append.1 hm with hm|hm;exact F4.o hm;simp at hm;exact he (by rw [hm]))
   have HE:=aa he;clear he
   go_wp2_with fail
   go_quiet (fail)
   have D4:=aa (nG.o.drewN nq);have qd:=aa (HB.o.drewN nq);have HUn:=aa (show(wr.drewN nq).heap[w1.heap.size]?=_ from HUb.o);go_wp2
   go_roundg (gk-1)
   case measure=>omega
   case rel=>exact⟨j+1,by omega,by go_num,HNn,qd,D4,HUn,hcb⟩
 have eu:¬(j:Int)<(K.length:Int):=by omega
 have HAd:=aa (show lU K (m,n)=K++ [(m,n)] by unfold lU;rw [if_neg (by have:=F4.o;rw [List.take_of_length_le (by omega)]at this;exact this)])
 have MB:=aa (show((eQ X.all (K++ [(m,n)])).map λu=>(u.m,u.n)).Nodup by
  have h1:=nG.o.nd;have h2:=F4.o;rw [List.take_of_length_le (by omega)]at h2;rw [Fx]at h1⊢
  exact List.nodup_append.2 ⟨h1,by simp,λa ha b hb e=>h2 (by simp at hb;subst hb;subst e;exact ha)⟩)
 have b1:K.length+1<=maxLen:=by unfold maxLen;omega
 have b2:(K.length+1)*48<=140737488355328:=by omega
 have kp:=aa (show ∀u∈ [Value.string ⟨m.toArray⟩,Value.string ⟨n.toArray⟩,Value.string ⟨sn.toArray⟩],u.oneCell'=true by
  intro u hu;simp only [List.mem_cons,List.not_mem_nil,or_false]at hu
  rcases hu with rfl|rfl|rfl<;>rfl)
 have OE:=aa nG.o.Gy;have pZ:=aa (show X.lo<=(wr.drew.alloc (.cells #[.string ⟨m.toArray⟩,.string ⟨n.toArray⟩,.string ⟨sn.toArray⟩] 185)).heap.size by have:=OE.o;simp;omega);have HSf:=aa (show Gz X.all (m,n)=sn by rw [cC.o];rfl);have Z3:=aa (aaq WQ.o Yt.o (by decide))
 go_wp2_with fail
 obtain⟨i0,hi,hz0,hz1,hz2⟩:=info_parts uW
 go_region_law (refine cv rfl (.tmp 44) (.tmp 46) 152 rfl X.lo 185 i0 (.agg #[.string ⟨#[]⟩,.string ⟨#[]⟩,.string ⟨#[]⟩]) 3 48 underlying152 hi hz0 hz1 hz2 rfl (by decide) (.slice WN K.length WO) K.length (dz (Gz X.all) K) ?_ ?_ ⟨wr.heap.size,0,none⟩ 1 1 [.string ⟨m.toArray⟩,.string ⟨n.toArray⟩,.string ⟨sn.toArray⟩] ?_ rfl ?_ kp.o b1 b2 ?_ ?_;(simp [Act.eval,Act.put]);(exact(World.ownsRow.drew Yt.o).alloc _);(simp [Act.eval,Act.put]);(exact(eU wr.drew _ _ _ _));(exact pZ.o);intro v' w4 hown aB aJ;obtain⟨g4,c4,cu4,rfl,_⟩:=cN hown (by omega);have HG:=aa aB;have HO:=aa hown;have Gs:=aa (dS (aA aB));have uS:=(Gs.o.block X.cb cl (λe=>Z3.o e.symm)).trans WQ.o;have k8:=ae uS 8;have kf:=aj uS;have kl:=af uS;simp at k8;clear hown aB aJ uS)
 all_goals
  have e1:(eQ X.all (K++ [(m,n)])).length=K.length+1:=by simp
  have e2:bo (eQ X.all (K++ [(m,n)]))=dz (Gz X.all) K++ [.string ⟨m.toArray⟩,.string ⟨n.toArray⟩,.string ⟨sn.toArray⟩]:=by rw [wP,pX,<-HSf.o];rfl
  have hk:=nG.o.aeg (U':=eQ X.all (K++ [(m,n)])) (g':=g4) (cap':=c4) WQ.o HH1.o aca.o (by rw [List.length_map];exact HG.o) (by rw [e1,e2];exact HO.o) MB.o;rw [e1]at hk;have HK:=aa hk;clear hk e1 e2;go_wp2;go_ret;exact⟨by rw [<-cC.o];rfl,HB.o.trans HK.o.1,by rw [HAd.o];exact HK.o.2⟩
def aar:wK:=⟨[],0,false,[],[],0,0⟩
def jE(all:List (List UInt8×RM))(n:List UInt8):List lu->List (Nm×Nm)->List (Nm×Nm)×Option wK
 | [],K=>(K,none)
 |x::r,K=>if dA all x.ag n= []then jE all n r (lU K (x.ag,n))else(lU K (x.ag,n),(rD x.ag all).bind λm=>JH n true m.aR)
def eO(X:CX)(n:List UInt8)(K:List (Nm×Nm)):List (Nm×Nm)×Option wK:=
 match JH n false X.me.aR with
 |some f=>(K,some f)
 |none=>jE X.all n X.me.aq K
theorem zQ(K:List (Nm×Nm))(x:Nm×Nm):(lU K x).length<=K.length+1:=by unfold lU;split<;>simp
theorem WR(l:List lu)(j:Nat)(hj:j<l.length):(l.flatMap dI)[j*2]?=some (.string ⟨l[j].ag.toArray⟩)/\(l.flatMap dI)[j*2+1]?=some (.int .i64 l[j].ai):=by
 induction l generalizing j with
 |nil=>simp at hj
 |cons x r ih=>
  rw [show(x::r).flatMap dI=.string ⟨x.ag.toArray⟩:: .int .i64 x.ai::r.flatMap dI from rfl]
  cases j with
  |zero=>exact⟨rfl,rfl⟩
  |succ j=>
   have:=ih j (by simpa using hj);rw [show(j+1)*2=j*2+1+1 by omega];simpa using this
theorem BS{l:List lu}(h:cW S w 260 2 v l.length (l.flatMap dI))(j:Nat)(hj:j<l.length):
  ∃g cap,v=.slice (some ⟨g,0,none⟩) l.length cap/\g<w.heap.size/\S g/\w.cell? ⟨g,j*2,none⟩=some (.string ⟨l[j].ag.toArray⟩)/\w.cell? ⟨g,j*2+1,none⟩=some (.int .i64 l[j].ai):=by
 rcases bZ h.1 with⟨rfl,h0⟩|⟨g,cap,rfl,hb,hlt,gO,hc,he⟩
 ·omega
 have:=WR l j hj;exact⟨g,cap,rfl,hlt,h.2 g he,(hc _ (by omega)).trans this.1,(hc _ (by omega)).trans this.2⟩
theorem Im{m n:List UInt8}(hn:n≠ [])(h:dA l m n≠ []):∃x f,rD m l=some x/\JH n true x.aR=some f:=by
 unfold dA at h
 rcases hm:rD m l with _|x
 ·rw [hm]at h;exact absurd rfl h
 rw [hm]at h;simp only [if_neg hn]at h
 rcases hf:JH n true x.aR with _|f
 ·rw [hf]at h;exact absurd rfl h
 exact⟨x,f,rfl,hf⟩
theorem fX.typed(h:fX lo w w'){t:TypeId}(hk:w.heap[k]?=some (.cells c t f))(h1:t≠318)(h2:t≠253)(h3:t≠185):w'.heap[k]?=some (.cells c t f):=
 (h.block k (af hk) (Or.inr ⟨c,t,f,hk,h1,h2,h3⟩)).trans hk
structure On (b:Nat) (w w':World):Prop where
 os:w'.os=w.os
 tape:w'.tape=w.tape
 output:w'.output=w.output
 size:w'.heap.size=w.heap.size
 block:∀k,k≠b->w'.heap[k]?=w.heap[k]?
theorem On.refl(b:Nat)(w:World):On b w w:=⟨rfl,rfl,rfl,rfl,λ_ _=>rfl⟩
theorem On.set(h:On b w w')(o:Nat)(u:Value):On b w (w'.setCell ⟨b,o,none⟩ u):=
 ⟨h.os,h.tape,h.output,by have:=h.size;simpa [World.setCell]using this,λk hk=>(Below.heap_setCell _ _ _ _ (show k≠b from hk)).trans (h.block k hk)⟩
theorem Ck.on(h:Ck X i F U w)(ho:On b w w'){t:TypeId}(hb:w.heap[b]?=some (.cells c t f))(h1:t≠318)(h2:t≠253)(h3:t≠185)(tI:X.lo<=b):Ck X i F U w':=by
 have hne:∀{t':TypeId} {size n:Nat} {v:Value} {xs:List Value},w.ownsRow X.lo t' size v n xs->t'≠t->v.ownBlock≠some b:=by
  intro t' size n v xs ho ht e
  rcases ho.2 with⟨rfl,_⟩|⟨g,cap,aU,rfl,_,hc,_⟩
  ·simp [Value.ownBlock]at e
  ·simp [Value.ownBlock]at e
   subst e;rw [hb]at hc
   injection hc with hc
   injection hc with _ e _
   exact ht e.symm
 obtain⟨fo,fc,uo,uc,p,q,r⟩:=h.mem
 have hcb:X.cb≠b:=by
  rintro rfl;rw [hb]at p
  injection p with p
  injection p with _ e _
  exact h1 e
 exact⟨⟨fo,fc,uo,uc,(ho.block _ hcb).trans p,aM q (λg e=>ho.block g (λe'=>hne q (Ne.symm h2) (e'▸e))),aM r (λg e=>ho.block g (λe'=>hne r (Ne.symm h3) (e'▸e)))⟩,h.Gy,h.bad,h.hS,
  h.me.keep λk hS hk=>⟨hS,ho.block k (by have:=h.hS k hS;omega)⟩,h.all.keep λk hS hk=>⟨hS,ho.block k (by have:=h.hS k hS;omega)⟩,h.xu,h.nd⟩
theorem fX.on{w1:World}(h:fX lo w w1)(ho:On b w1 w')(hb:w.heap.size<=b):fX lo w w':=
 ⟨ho.os.trans h.os,ho.tape.trans h.tape,ho.output.trans h.output,by rw [ho.size];exact h.size,λk hk hx=>(ho.block k (by omega)).trans (h.block k hk hx)⟩
def WS(X:CX)(i:Nat)(F:List (Nat×Nat))(K:List (Nm×Nm))(n:List UInt8)(w:World)(e:Ending)(w':World):Prop:=
 ∃f,∃(po:Option Addr) (pn pc:Nat) (qo:Option Addr) (qc:Nat),f=(eO X n K).2.getD aar/\
  e=.returned (.tuple #[.agg #[.string ⟨f.ag.toArray⟩,.int .i64 f.ai,.bool f.gW,.slice po pn pc,.slice qo f.aef.length qc,.int .u8 f.aL,.int .i64 f.br],.bool (eO X n K).2.isSome])/\
  fX X.lo w w'/\Ck X i F (eQ X.all (eO X n K).1) w'/\cW X.S w' 5 1 (.slice qo f.aef.length qc) f.aef.length (f.aef.map λ(k:Nat)=> .int .u8 k)
theorem xw(h:Ck X i F (eQ X.all K) w)(hz:SH X.all)(hK:K.length+X.me.aq.length<=1000000000)(n:List UInt8)(hn:n≠ []):
  Calls prog 287 #[.pointer (some ⟨X.cb,0,none⟩),.string ⟨n.toArray⟩] w (WS X i F K n w):=by
 obtain⟨fo,fc,uo,uc,hb,h1,h2⟩:=h.mem;have oC:=h.bad;obtain⟨_,hI,Uo⟩:=h.me.ok oC;obtain⟨iv0,xH⟩:∃o c,X.iv=.slice o X.me.aq.length c:=ak hI.1;obtain⟨ic0,xH⟩:=xH
 obtain⟨fv0,se⟩:∃o c,X.fv=.slice o X.me.aR.length c:=by obtain⟨xs,a,_⟩:=Uo;exact ak a.1
 obtain⟨fc0,se⟩:=se;have c1:=ae hb 1;have c2:=ae hb 2;have c3:=ae hb 3;have c4:=ae hb 4;have c5:=ae hb 5;have cl:=af hb;simp at c1 c2 c3 c4 c5;rw [xH]at c2;rw [se]at c3;have HC:=aa h;have HZ:=aa hz;have lO:=aa Uo;have HI:=aa hI;have HN:=aa hn;have HIv:=aa xH;have HFv:=aa se;clear h hb h1 h2 hz hI Uo hn xH;rw [HFv.o]at lO
 rcases uj n false X.me.aR 0 with⟨f1,f2⟩|⟨k,hk,f1,f2⟩
 ·have HR:=aa (show eO X n K=jE X.all n X.me.aq K by unfold eO;rw [f2])
  have vN:=aa f1;clear f1 f2 se
  go_enter func287,ntmps287
  go_wp2_with fail
  refine(pD X.me.aR 0 _ _ _ _ _ _ (lO.o.below ((Below.refl _ _).alloc (Nat.le_refl _) _)).row n false).mono ?_;rintro e w2 ⟨rfl,hb2⟩;rw [vN.o];have rE:=((Below.refl w.heap.size w).alloc (Nat.le_refl _) (.cells #[.string ⟨#[]⟩,.int .i64 0,.bool false,.slice none 0 0,.slice none 0 0,.int .u8 0,.int .i64 0] 262)).trans (hb2.mono (by simp));have kW:=aa (HC.o.below rE);have cU:=aa (fX.aW (lo:=X.lo) rE);have pP:=aa ((hb2.block w.heap.size (by simp)).trans (aF w _));clear hb2 rE c1 c2 c3 c4 c5
  go_wp2_with fail
  go_loopg [7] X.me.aq.length (λnn iv wr=>∃(j:Nat) (K':List (Nm×Nm)),nn+j=X.me.aq.length/\iv=.int .i64 j/\Hy (jE X.all n X.me.aq K=jE X.all n (X.me.aq.drop j) K')/\K'.length<=K.length+j/\Hy (fX X.lo w wr)/\Hy (Ck X i F (eQ X.all K') wr)/\
   Hy (wr.heap[w.heap.size]?=some (.cells #[.string ⟨#[]⟩,.int .i64 0,.bool false,.slice none 0 0,.slice none 0 0,.int .u8 0,.int .i64 0] 262 (0,0))))
  case atStart=>exact⟨0,K,by omega,rfl,aa rfl,by omega,cU,kW,pP⟩
  case round=>
   obtain⟨j,K',hj,rfl,Sp,hK',HB,nG,B4⟩:=hrel;obtain⟨_,_,_,_,hbr,_,_⟩:=nG.o.mem;have c2:=ae hbr 2;have cl':=af hbr;simp at c2;rw [HIv.o]at c2;clear hbr
   by_cases hlt:j<X.me.aq.length
   ·have eu:(j:Int)<(X.me.aq.length:Int):=by omega
    have hmx:(j:Int)+1<=9223372036854775807:=by omega
    obtain⟨_,hI',_⟩:=nG.o.me.ok oC;obtain⟨g,cap,hv,eP,qU,d0,_⟩:=BS hI' j hlt;rw [HIv.o]at hv
    injection hv with v1 v2 v3
    subst v1 v3;have HD:=aa (si hlt);obtain⟨x,hx⟩:∃x,x=X.me.aq[j]:=⟨_,rfl⟩;rw [<-hx]at d0 HD;have HX:=aa hx;clear hI' v2 hx
    go_wp2_with fail
    refine(Fy nG.o HZ.o (by omega) x.ag n).mono ?_;rintro e w3 ⟨rfl,hf3,hc3⟩;have jl:=aa hc3;have dy:=aa (HB.o.trans hf3);have oB:=aa (hf3.typed B4.o (by decide) (by decide) (by decide));have ui:=zQ K' (x.ag,n);clear hf3 hc3 d0 c2;obtain⟨t,ht⟩:∃t,t=dA X.all x.ag n:=⟨_,rfl⟩;rw [<-ht];have HT:=aa ht;clear ht
    rcases t with _|⟨c,t⟩
    ·have G0:=aa (Sp.o.trans (show jE X.all n (X.me.aq.drop j) K'=jE X.all n (X.me.aq.drop (j+1)) (lU K' (x.ag,n)) by
      rw [HD.o];show(if dA X.all x.ag n= []then _ else _)=_
      rw [if_pos HT.o.symm]))
     go_wp2
     go_roundg (gk-1)
     case measure=>omega
     case rel=>exact⟨j+1,lU K' (x.ag,n),by omega,by go_num,G0,by omega,dy,jl,oB⟩
    ·have hs:dA X.all x.ag n≠ []:=by rw [<-HT.o];simp
     obtain⟨m,f,hm,hf⟩:=Im HN.o hs
     rcases BQ x.ag X.all 0 with⟨_,e2⟩|⟨j2,LB,e1,e2,e3⟩
     ·rw [e2]at hm;cases hm
     ·rw [e2]at hm
      injection hm with hm
      have G0:=aa (show jE X.all n X.me.aq K=(lU K' (x.ag,n),some f)from Sp.o.trans (by
       rw [HD.o];show(if dA X.all x.ag n= []then _ else _)=_;rw [if_neg hs,e2];show(_,JH n true X.all[j2].2.aR)=_
       rw [hm,hf]))
      rcases jl.o.all.cells with⟨_,hnil⟩|⟨ga,acb,Uq,ad9,_,hSa,hcs⟩
      ·exact absurd LB (by rw [hnil];simp)
      ·obtain⟨lv,iv,fv,a0,a1,a2,a3,a4,a5,hM⟩:=hcs j2 LB
       rcases uj n true X.all[j2].2.aR 0 with⟨_,f2⟩|⟨k,hk,f1,f2⟩
       ·rw [hm,hf]at f2;cases f2
       ·have hFn:=(hM.ok e3).2.2
        obtain⟨⟨lo,ln,lc,rfl⟩,⟨io,Fw,ic,rfl⟩,⟨Ym,fn2,J0,rfl⟩⟩:=hM.sh;obtain⟨g2,wN,po,pn,pc,qo,qn,qc,hv,hg2,hS2,b0,b1,b2,b3,b4,b5,b6,hp,hq⟩:=hFn.fn k hk
        injection hv with v1 v2 v3
        subst v1 v2 v3;rw [<-hm,f2]at hf
        injection hf with hf
        subst hf;have Gl:=aa (show rB x.ag X.all 0=(j2:Int) by rw [e1];congr 1;omega);have acd:=aa (show jZ n true X.all[j2].2.aR 0=(k:Int) by rw [f1];congr 1;omega);have qi:=aa hFn;have HQ:=aa hq;obtain⟨_,_,_,_,hb3,_,_⟩:=jl.o.mem;have c0:=ae hb3 0;have c2:=ae hb3 2;have cl3:=af hb3;simp at c0 c2;rw [HIv.o]at c2;rw [Uq]at c0;obtain⟨_,hI3,_⟩:=jl.o.me.ok oC;obtain⟨gi,adA,hv,F5,_,d0,_⟩:=BS hI3 j hlt;rw [HIv.o]at hv
        injection hv with v1 v2 v3
        injection v1 with v1
        injection v1 with v1
        subst v1 v3;rw [<-HX.o]at d0;have Yu:=aa (jD X.all X.S (w3.alloc (.cells #[.slice none 0 0,.slice none 0 0,.slice none 0 0,.bool false,.int .i64 0] 249)).drew _ (jl.o.alloc _).drew.all x.ag);have WT:=aa (jD X.all X.S w3.drew _ jl.o.drew.all x.ag);rw [Uq,Gl.o]at Yu WT
        have adB:(j2:Int)<(X.all.length:Int):=by omega
        have gZ:(k:Int)<(X.all[j2].2.aR.length:Int):=by omega
        have r0:=ae oB.o 0;have r1:=ae oB.o 1;have r2:=ae oB.o 2;have r3:=ae oB.o 3;have r4:=ae oB.o 4;have r5:=ae oB.o 5;have r6:=ae oB.o 6;have rl:=af oB.o;have rf:=aj oB.o;simp at r0 r1 r2 r3 r4 r5 r6;clear hp hq hFn hM hcs hm f1 f2 e1 e2 e3 hI3 v2 hb3 hs;generalize X.all[j2]=y at*
        go_wp2_with fail
        go_region_held3 (λw'=>w'.cell? ⟨X.cb,0,none⟩=some (.slice (some ⟨ga,0,none⟩) X.all.length acb)/\w'.cell? ⟨X.cb,2,none⟩=some (.slice (some ⟨g,0,none⟩) X.me.aq.length ic0)/\w'.cell? ⟨g,j*2,none⟩=some (.string ⟨x.ag.toArray⟩)/\w'.cell? ⟨ga,j2*6+1,none⟩=some (.slice lo ln lc)/\w'.cell? ⟨ga,j2*6+2,none⟩=some (.slice io Fw ic)/\w'.cell? ⟨ga,j2*6+3,none⟩=some (.slice (some ⟨g2,0,none⟩) y.2.aR.length J0)/\w'.cell? ⟨ga,j2*6+4,none⟩=some (.bool y.2.bad)/\w'.cell? ⟨ga,j2*6+5,none⟩=some (.int .i64 y.2.ai)) (go_keep)
         (first
          |(go_at_call 133;refine Yu.o.mono ?_;rintro e w4 ⟨rfl,rfl⟩)
          |(go_at_call 133;refine WT.o.mono ?_;rintro e w4 ⟨rfl,rfl⟩))
        all_goals go_wp2_with fail
        all_goals
         have hww:w.heap.size<w3.heap.size:=rl;have vz:=((Below.refl w3.heap.size w3).alloc (Nat.le_refl _) (.cells #[.slice lo ln lc,.slice io Fw ic,.slice (some ⟨g2,0,none⟩) y.2.aR.length J0,.bool y.2.bad,.int .i64 y.2.ai] 249)).drew;have ly:=aa (jl.o.below vz);have iw:=aa (dy.o.trans (.aW vz));have AE:=aa ((vz.block _ rl).trans oB.o);have QQ:=aa (show(w3.alloc (.cells #[.slice lo ln lc,.slice io Fw ic,.slice (some ⟨g2,0,none⟩) y.2.aR.length J0,.bool y.2.bad,.int .i64 y.2.ai] 249)).drew.heap[w3.heap.size]?=_ from aF w3 (.cells #[.slice lo ln lc,.slice io Fw ic,.slice (some ⟨g2,0,none⟩) y.2.aR.length J0,.bool y.2.bad,.int .i64 y.2.ai] 249));have ace:=aa (qi.o.below vz);have HQ4:=aa (HQ.o.keep (S':=X.S) λk hS hk=>⟨hS,vz.block k hk⟩);have b0':=(vz.cell hg2).trans b0;have X_:=(vz.cell hg2).trans b1;have b2':=(vz.cell hg2).trans b2;have b3':=(vz.cell hg2).trans b3;have b4':=(vz.cell hg2).trans b4;have b5':=(vz.cell hg2).trans b5;have b6':=(vz.cell hg2).trans b6;have hg4:g2<(w3.alloc (.cells #[.slice lo ln lc,.slice io Fw ic,.slice (some ⟨g2,0,none⟩) y.2.aR.length J0,.bool y.2.bad,.int .i64 y.2.ai] 249)).drew.heap.size:=Nat.lt_of_lt_of_le hg2 vz.size;clear vz b0 b1 b2 b3 b4 b5 b6 r0 r1 r2 r3 r4 r5 r6 rl rf c0 c2 d0 a0 a1 a2 a3 a4 a5 Yu WT;generalize (w3.alloc (.cells #[.slice lo ln lc,.slice io Fw ic,.slice (some ⟨g2,0,none⟩) y.2.aR.length J0,.bool y.2.bad,.int .i64 y.2.ai] 249)).drew=w4 at*;have u0:=ae QQ.o 0;have u1:=ae QQ.o 1;have u2:=ae QQ.o 2;have u3:=ae QQ.o 3;have u4:=ae QQ.o 4;have ul:=af QQ.o;have rl:=af AE.o;simp at u0 u1 u2 u3 u4;have NZ:=aa (pD y.2.aR 0 w4.drew _ (.slice lo ln lc) (.slice io Fw ic) (.bool y.2.bad) (.int .i64 y.2.ai) (ace.o.below ((Below.refl _ _).drew)).row n true);rw [acd.o]at NZ;generalize y.2.aR[k]=f at*
         have nw1:¬w3.heap.size=w.heap.size:=by omega
         have nw2:¬w.heap.size=w3.heap.size:=by omega
         have nw3:¬g2=w.heap.size:=by have:=HC.o.hS g2 hS2;have:=HC.o.Gy;omega
         have nw4:¬w.heap.size=g2:=by omega
         clear hww
         go_region_held3 (λw'=>w'.cell? ⟨w3.heap.size,0,none⟩=some (.slice lo ln lc)/\w'.cell? ⟨w3.heap.size,1,none⟩=some (.slice io Fw ic)/\w'.cell? ⟨w3.heap.size,2,none⟩=some (.slice (some ⟨g2,0,none⟩) y.2.aR.length J0)/\w'.cell? ⟨w3.heap.size,3,none⟩=some (.bool y.2.bad)/\w'.cell? ⟨w3.heap.size,4,none⟩=some (.int .i64 y.2.ai)/\w'.cell? ⟨g2,k*7,none⟩=some (.string ⟨f.ag.toArray⟩)/\w'.cell? ⟨g2,k*7+1,none⟩=some (.int .i64 f.ai)/\w'.cell? ⟨g2,k*7+2,none⟩=some (.bool f.gW)/\w'.cell? ⟨g2,k*7+3,none⟩=some (.slice po pn pc)/\w'.cell? ⟨g2,k*7+4,none⟩=some (.slice qo qn qc)/\w'.cell? ⟨g2,k*7+5,none⟩=some (.int .u8 f.aL)/\w'.cell? ⟨g2,k*7+6,none⟩=some (.int .i64 f.br)) (go_keep)
          (first
           |(go_at_call 134;refine NZ.o.mono ?_;rintro e w5 ⟨rfl,cZ⟩;have v0:=(cZ.cell (show w3.heap.size<w4.drew.heap.size from ul)).trans u0;have v1:=(cZ.cell (show w3.heap.size<w4.drew.heap.size from ul)).trans u1;have v2:=(cZ.cell (show w3.heap.size<w4.drew.heap.size from ul)).trans u2;have v3:=(cZ.cell (show w3.heap.size<w4.drew.heap.size from ul)).trans u3;have v4:=(cZ.cell (show w3.heap.size<w4.drew.heap.size from ul)).trans u4;have e0:=(cZ.cell (show g2<w4.drew.heap.size from hg4)).trans b0';have e1:=(cZ.cell (show g2<w4.drew.heap.size from hg4)).trans X_;have e2:=(cZ.cell (show g2<w4.drew.heap.size from hg4)).trans b2';have e3:=(cZ.cell (show g2<w4.drew.heap.size from hg4)).trans b3';have e4:=(cZ.cell (show g2<w4.drew.heap.size from hg4)).trans b4';have e5:=(cZ.cell (show g2<w4.drew.heap.size from hg4)).trans b5';have e6:=(cZ.cell (show g2<w4.drew.heap.size from hg4)).trans b6';have Az:=(cZ.block w.heap.size (show w.heap.size<w4.drew.heap.size from rl)).trans AE.o;have r0:=ae Az 0;have r1:=ae Az 1;have r2:=ae Az 2;have r3:=ae Az 3;have r4:=ae Az 4;have r5:=ae Az 5;have r6:=ae Az 6;have rf:=aj Az;have rl5:=af Az;have gT:=aa cZ;simp at r0 r1 r2 r3 r4 r5 r6;clear cZ Az))
         all_goals
          go_wp2;refine bodyPost_ret (v:=.tuple #[.agg #[.string ⟨f.ag.toArray⟩,.int .i64 f.ai,.bool f.gW,.slice po pn pc,.slice qo qn qc,.int .u8 f.aL,.int .i64 f.br],.bool true]) (by simp [results,results287,go_sem,r0,r1,r2,r3,r4,r5,r6,rl5]) rfl ?_;have cZ:=gT.o;have QS:=(((((((On.refl w.heap.size w5).set 0 (.string ⟨f.ag.toArray⟩)).set 1 (.int .i64 f.ai)).set 2 (.bool f.gW)).set 3 (.slice po pn pc)).set 4 (.slice qo qn qc)).set 5 (.int .u8 f.aL)).set 6 (.int .i64 f.br);have Az:=(cZ.block w.heap.size (show w.heap.size<w4.drew.heap.size from rl)).trans AE.o;have tI:=HC.o.Gy;have V7:=HQ4.o;obtain⟨qo',qc',Wh⟩:=ak V7.1
          injection Wh with q1 q2 q3
          subst q2
          exact⟨f,po,pn,pc,qo,qc,by rw [HR.o,G0.o];rfl,by rw [HR.o,G0.o];rfl,((iw.o.drew).trans (.aW cZ)).on QS (Nat.le_refl _),
           by rw [HR.o,G0.o];exact(ly.o.drew.below cZ).on QS Az (by decide) (by decide) (by decide) (by omega),
           V7.keep λk hS hk=>⟨hS,(QS.block k (by have:=HC.o.hS k hS;omega)).trans (cZ.block k hk)⟩⟩
   ·have eu:¬(j:Int)<(X.me.aq.length:Int):=by omega
    have G0:=aa (show jE X.all n X.me.aq K=(K',none)from Sp.o.trans (by rw [List.drop_eq_nil_of_le (by omega)];rfl));have r0:=ae B4.o 0;have r1:=ae B4.o 1;have r2:=ae B4.o 2;have r3:=ae B4.o 3;have r4:=ae B4.o 4;have r5:=ae B4.o 5;have r6:=ae B4.o 6;have rf:=aj B4.o;have rl:=af B4.o;simp at r0 r1 r2 r3 r4 r5 r6;go_wp2;refine bodyPost_ret (v:=.tuple #[.agg #[.string ⟨#[]⟩,.int .i64 0,.bool false,.slice none 0 0,.slice none 0 0,.int .u8 0,.int .i64 0],.bool false]) (by simp [results,results287,go_sem,r0,r1,r2,r3,r4,r5,r6,rl]) rfl ?_;have QS:=(((((((On.refl w.heap.size wr).set 0 (.string ⟨#[]⟩)).set 1 (.int .i64 0)).set 2 (.bool false)).set 3 (.slice none 0 0)).set 4 (.slice none 0 0)).set 5 (.int .u8 0)).set 6 (.int .i64 0);have tI:=HC.o.Gy;exact⟨aar,none,0,0,none,0,by rw [HR.o,G0.o];rfl,by rw [HR.o,G0.o];rfl,HB.o.on QS (Nat.le_refl _),by rw [HR.o,G0.o];exact nG.o.on QS B4.o (by decide) (by decide) (by decide) (by omega),⟨World.ownsRow_nil _ _ _ _,λg e=>by simp [Value.ownBlock]at e⟩⟩
 have HR:=aa (show eO X n K=(K,some X.me.aR[k]) by unfold eO;rw [f2]);have vN:=aa (show jZ n false X.me.aR 0=(k:Int) by rw [f1];congr 1;omega);obtain⟨g2,wN,po,pn,pc,qo,qn,qc,hv,hg2,hS2,b0,b1,b2,b3,b4,b5,b6,hp,hq⟩:=lO.o.fn k hk
 injection hv with v1 v2 v3
 subst v1 v3
 have gZ:(k:Int)<(X.me.aR.length:Int):=by omega
 have hk3:(0:Int)<=(k:Int):=by omega
 have HQ:=aa hq;clear f1 f2 hp hq se v2;generalize X.me.aR[k]=f at*
 go_enter func287,ntmps287
 go_wp2_with fail
 refine(pD X.me.aR 0 _ _ _ _ _ _ (lO.o.below ((Below.refl _ _).alloc (Nat.le_refl _) _)).row n false).mono ?_;rintro e w2 ⟨rfl,hb2⟩;rw [vN.o];have rE:=((Below.refl w.heap.size w).alloc (Nat.le_refl _) (.cells #[.string ⟨#[]⟩,.int .i64 0,.bool false,.slice none 0 0,.slice none 0 0,.int .u8 0,.int .i64 0] 262)).trans (hb2.mono (by simp));have kW:=aa (HC.o.below rE);have cU:=aa rE;have pP:=aa ((hb2.block w.heap.size (by simp)).trans (aF w _));have r0:=ae pP.o 0;have r1:=ae pP.o 1;have r2:=ae pP.o 2;have r3:=ae pP.o 3;have r4:=ae pP.o 4;have r5:=ae pP.o 5;have r6:=ae pP.o 6;have rf:=aj pP.o;have rl:=af pP.o;simp at r0 r1 r2 r3 r4 r5 r6;have c3':=(rE.cell cl).trans c3;have e0:=(rE.cell hg2).trans b0;have e1:=(rE.cell hg2).trans b1;have e2:=(rE.cell hg2).trans b2;have e3:=(rE.cell hg2).trans b3;have e4:=(rE.cell hg2).trans b4;have e5:=(rE.cell hg2).trans b5;have e6:=(rE.cell hg2).trans b6;have cl2:X.cb<w2.heap.size:=Nat.lt_of_lt_of_le cl rE.size;have R7:g2<w2.heap.size:=Nat.lt_of_lt_of_le hg2 rE.size;clear hb2 rE c1 c2 c3 c4 c5 b0 b1 b2 b3 b4 b5 b6;go_wp2;refine bodyPost_ret (v:=.tuple #[.agg #[.string ⟨f.ag.toArray⟩,.int .i64 f.ai,.bool f.gW,.slice po pn pc,.slice qo qn qc,.int .u8 f.aL,.int .i64 f.br],.bool true]) (by simp [results,results287,go_sem,r0,r1,r2,r3,r4,r5,r6,rl]) rfl ?_;have QS:=(((((((On.refl w.heap.size w2).set 0 (.string ⟨f.ag.toArray⟩)).set 1 (.int .i64 f.ai)).set 2 (.bool f.gW)).set 3 (.slice po pn pc)).set 4 (.slice qo qn qc)).set 5 (.int .u8 f.aL)).set 6 (.int .i64 f.br);have tI:=HC.o.Gy;have V7:=HQ.o;obtain⟨qo',qc',Wh⟩:=ak V7.1
 injection Wh with q1 q2 q3
 subst q2
 exact⟨f,po,pn,pc,qo,qc,by rw [HR.o];rfl,by rw [HR.o];rfl,(fX.aW cU.o).on QS (Nat.le_refl _),
  by rw [HR.o];exact kW.o.on QS pP.o (by decide) (by decide) (by decide) (by omega),
  V7.keep λk hS hk=>⟨hS,(QS.block k (by have:=HC.o.hS k hS;omega)).trans (cU.o.block k hk)⟩⟩
end Go.Proofs.YtpmmjkiclngpmaaGreatDoor
