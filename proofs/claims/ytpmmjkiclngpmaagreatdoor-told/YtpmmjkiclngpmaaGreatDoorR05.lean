/- YtpmmjkiclngpmaaGreatDoorR05 -/
import Derived.Test.YtpmmjkiclngpmaaGreatDoorR04
import Derived.Test.YtpmmjkiclngpmaaGreatDoorR02
set_option maxRecDepth 100000
set_option linter.unusedSimpArgs false
set_option linter.unusedVariables false
set_option maxHeartbeats 12800000
namespace Go.Proofs.YtpmmjkiclngpmaaGreatDoor
open Tryz
open Go.RowKit
variable{m:RM}{v lv iv fv:Value}{w w':World}{S S':Nat->Prop}{xs:List Value}{n i:Nat}{l ms:List (List UInt8×RM)}{L:List Md}{E:Nm->Option Mod}{b:Option Nat}
theorem B_(t:List UInt8):0<(aD t 0).length/\(aD t 0).length<=t.length+1:=by
 obtain⟨r,x,e,_,h⟩:=h_ t 0;rw [e];simp;omega
structure Dp (t:List UInt8) (m:RM):Prop where
 ws:m.ws=aD t 0
 bad:m.bad=(dC t).2.aH
 ai:m.bad=true->m.ai=(dC t).2.ai
 QT:m.bad=false->S_ m (dC t).1
theorem Dp.form{t:List UInt8}(h:Dp t m):(m.bad=true/\ir t=none)\/(m.bad=false/\∃md,ir t=some md/\S_ m md):=by
 unfold ir
 rcases hb:m.bad with _|_
 ·have:=h.bad
  rw [hb]at this;rw [<-this];exact Or.inr ⟨rfl,_,rfl,h.QT hb⟩
 have:=h.bad;rw [hb]at this;rw [<-this];exact Or.inl ⟨rfl,rfl⟩
theorem Qg(t:List UInt8)(ht:t.length<=100000)(w:World):
  Calls prog 184 #[.string ⟨t.toArray⟩] w λe w'=>∃lv iv fv m,e=.returned (.agg #[lv,iv,fv,.bool m.bad,.int .i64 m.ai])/\Below w.heap.size w w'/\jr (λk=>w.heap.size<=k/\k<w'.heap.size) w' lv iv fv m/\Dp t m:=by
 have hl:=B_ t;refine(SF ⟨t.toArray⟩ w (aD t 0) (λw=>L5 ⟨t.toArray⟩ (by show t.toArray.size<=_;simpa using ht) w) ⟨yh t,λs h=>tX _ (CT t s h).2.1⟩ hl.1 (by omega)).mono ?_;rintro e w' ⟨lv,iv,fv,pl,rl,rfl,hb,hp,hr,ha⟩;exact⟨lv,iv,fv,⟨aD t 0,(dC t).2.aH,pl,(dC t).1.aq,rl⟩,rfl,hb,hr,⟨rfl,rfl,hp,λh=>⟨rfl,ha h⟩⟩⟩
structure wU where
 ag:List UInt8
 now:List UInt8
 has:Bool
 old:List UInt8
 aeg:List Us
variable{x:wU}
def vE(x:wU)(uv:Value):List Value:= [.string ⟨x.ag.toArray⟩,.string ⟨x.now.toArray⟩,.bool x.has,.string ⟨x.old.toArray⟩,uv]
def eW(S:Nat->Prop)(w:World)(v:Value)(l:List wU):Prop:=∃xs,cW S w 169 5 v l.length xs/\
 ∀j (h:j<l.length),∃uv,(∀o,o<5->xs[j*5+o]?=(vE l[j] uv)[o]?)/\(∃a b c,uv=.slice a b c)/\(l[j].has=true->cW S w 185 3 uv l[j].aeg.length (bo l[j].aeg))
theorem eW.keep{l:List wU}(h:eW S w v l)(hk:∀k,S k->k<w.heap.size->S' k/\w'.heap[k]?=w.heap[k]?):eW S' w' v l:=by
 obtain⟨xs,a,b⟩:=h;exact⟨xs,a.keep hk,λj hj=>by obtain⟨uv,c,d,e⟩:=b j hj;exact⟨uv,c,d,λhh=>(e hh).keep hk⟩⟩
theorem eW.cells{l:List wU}(h:eW S w v l):(v=.slice none 0 0/\l= [])\/∃g cap,v=.slice (some ⟨g,0,none⟩) l.length cap/\g<w.heap.size/\l.length<=maxLen/\S g/\
  ∀j (h:j<l.length),∃uv,w.cell? ⟨g,j*5,none⟩=some (.string ⟨l[j].ag.toArray⟩)/\w.cell? ⟨g,j*5+1,none⟩=some (.string ⟨l[j].now.toArray⟩)/\w.cell? ⟨g,j*5+2,none⟩=some (.bool l[j].has)/\w.cell? ⟨g,j*5+3,none⟩=some (.string ⟨l[j].old.toArray⟩)/\w.cell? ⟨g,j*5+4,none⟩=some uv/\(∃a b c,uv=.slice a b c)/\(l[j].has=true->cW S w 185 3 uv l[j].aeg.length (bo l[j].aeg)):=by
 obtain⟨xs,ho,hx⟩:=h
 rcases bZ ho.1 with⟨rfl,h0⟩|⟨g,cap,rfl,hb,hlt,gO,hc,he⟩
 ·exact Or.inl ⟨rfl,List.eq_nil_of_length_eq_zero h0⟩
 refine Or.inr ⟨g,cap,rfl,hlt,gO,ho.2 g he,λj hj=> ?_⟩;obtain⟨uv,a,b,c⟩:=hx j hj
 have hc':∀o,o<5->w.cell? ⟨g,j*5+o,none⟩=(vE l[j] uv)[o]?:=λo ho=>(hc _ (by omega)).trans (a o ho)
 exact⟨uv,hc' 0 (by omega),hc' 1 (by omega),hc' 2 (by omega),hc' 3 (by omega),hc' 4 (by omega),b,c⟩
def ju(n:List UInt8):List wU->Nat->Int
 | [],_=> -1
 |x::r,k=>if x.ag==n then(k:Int)else ju n r (k+1)
theorem Ca(l:List wU)(S:Nat->Prop)(w:World)(sb:Nat)(lv a1 a2 a3:Value)(hb:w.heap[sb]?=some (.cells #[lv,a1,a2,a3] 121 (0,0)))(h:eW S w lv l)(n:List UInt8):
  Calls prog 82 #[.pointer (some ⟨sb,0,none⟩),.string ⟨n.toArray⟩] w λe w'=>e=.returned (.int .i64 (ju n l 0))/\w'=w:=by
 have HF:=aa h.cells
 have se:∃o c,lv=.slice o l.length c:=by
  rcases h.cells with⟨rfl,rfl⟩|⟨g,cap,rfl,_⟩
  ·exact⟨_,_,rfl⟩
  ·exact⟨_,_,rfl⟩
 obtain⟨fo,fc,rfl⟩:=se
 have QN:=aa (show l.length<=maxLen by rcases h.cells with⟨_,rfl⟩|⟨g,cap,_,_,h2,_⟩<;>first|(unfold maxLen;simp;done)|exact h2)
 have c0:=ae hb 0;have cl:=af hb;simp at c0;clear h hb
 go_enter func82,ntmps82
 go_wp2
 go_loopw [5] (λiv wr=>∃j:Nat,j<=l.length/\iv=.int .i64 j/\Hy (ju n l 0=ju n (l.drop j) j)/\wr=w) (λiv _=>l.length-(intOf iv).toNat)
 case atStart=>exact⟨0,by omega,rfl,aa rfl,rfl⟩
 obtain⟨j,hj,rfl,HE,rfl⟩:=hrel
 by_cases hlt:j<l.length
 ·have E2:(j:Int)<(l.length:Int):=by omega
  have L2:(0:Int)<=(j:Int):=by omega
  have HD:=aa (si hlt)
  have hm:(j:Int)+1<=9223372036854775807:=by have:=QN.o;unfold maxLen at this;omega
  rcases HF.o with⟨hv,hnil⟩|⟨g,cap,hv,eP,gO,qU,hcs⟩
  ·rw [hnil]at hlt;simp at hlt
  ·injection hv with v1 v2 v3
   subst v1 v3;obtain⟨uv,d0,_⟩:=hcs j hlt;clear hcs gO v2;obtain⟨x,hx⟩:∃x,x=l[j]:=⟨_,rfl⟩;rw [<-hx]at d0 HD;have HX:=aa hx;clear hx;have HV:=aa (show ju n l 0=if x.ag==n then(j:Int)else ju n (l.drop (j+1)) (j+1) by rw [HE.o,HD.o];rfl)
   rcases h1:(x.ag==n)with _|_
   ·have HN:=aa (show ju n l 0=ju n (l.drop (j+1)) (j+1) by rw [HV.o,h1];rfl)
    go_wp2
    go_roundw
    case rel=>exact⟨j+1,by omega,by go_num,HN,trivial⟩
    case measure=>simp [intOf];omega
   ·have HN:=aa (show ju n l 0=(j:Int) by rw [HV.o,h1];rfl)
    go_wp2;go_ret;exact⟨by rw [HN.o];rfl,rfl⟩
 have E2:¬(j:Int)<(l.length:Int):=by omega
 have HN:=aa (show ju n l 0= -1 by rw [HE.o,List.drop_eq_nil_of_le (by omega)];rfl);go_wp2;go_ret;exact⟨by rw [HN.o];rfl,rfl⟩
def ke(all:List (List UInt8×RM))(x:wU):Bool:=x.has&&(x.old==x.now&&x.aeg.all λu=>dA all u.m u.n==u.s)
theorem Td(l:List Us)(j:Nat)(hj:j<l.length):(bo l)[j*3]?=some (.string ⟨l[j].m.toArray⟩)/\(bo l)[j*3+1]?=some (.string ⟨l[j].n.toArray⟩)/\(bo l)[j*3+2]?=some (.string ⟨l[j].s.toArray⟩):=by
 induction l generalizing j with
 |nil=>simp at hj
 |cons x r ih=>
  rw [show bo (x::r)=.string ⟨x.m.toArray⟩:: .string ⟨x.n.toArray⟩:: .string ⟨x.s.toArray⟩::bo r from rfl]
  cases j with
  |zero=>exact⟨rfl,rfl,rfl⟩
  |succ j=>
   have:=ih j (by simpa using hj);rw [show(j+1)*3=j*3+1+1+1 by omega];simpa using this
theorem I4{b:Nat}{l:List Us}(h:w.ownsRow b 185 3 v l.length (bo l))(j:Nat)(hj:j<l.length):
  ∃g cap,v=.slice (some ⟨g,0,none⟩) l.length cap/\g<w.heap.size/\w.cell? ⟨g,j*3,none⟩=some (.string ⟨l[j].m.toArray⟩)/\w.cell? ⟨g,j*3+1,none⟩=some (.string ⟨l[j].n.toArray⟩)/\w.cell? ⟨g,j*3+2,none⟩=some (.string ⟨l[j].s.toArray⟩):=by
 rcases bZ h with⟨rfl,h0⟩|⟨g,cap,rfl,hb,hlt,gO,hc,he⟩
 ·omega
 have:=Td l j hj;exact⟨g,cap,rfl,hlt,(hc _ (by omega)).trans this.1,(hc _ (by omega)).trans this.2.1,(hc _ (by omega)).trans this.2.2⟩
theorem Cc(l:List (List UInt8×RM))(S:Nat->Prop)(w:World)(av:Value)(h:eL S w av l)(hz:SH l)(x:wU)(uo:Option Addr)(un uc:Nat)(hu:x.has=true->w.ownsRow 0 185 3 (.slice uo un uc) x.aeg.length (bo x.aeg))(hl:x.aeg.length<=100000000000):
  Calls prog 130 #[.agg #[.string ⟨x.ag.toArray⟩,.string ⟨x.now.toArray⟩,.bool x.has,.string ⟨x.old.toArray⟩,.slice uo un uc],av] w λe w'=>e=.returned (.bool (ke l x))/\Below w.heap.size w w':=by
 have HA:=aa h;have HZ:=aa hz;have HU:=aa hu;clear h hz hu;obtain⟨hs,Xm⟩:∃b,b=x.has:=⟨_,rfl⟩;rw [<-Xm]at HU⊢
 rcases hs with _|_
 ·have HR:=aa (show ke l x=false by unfold ke;rw [<-Xm];rfl)
  clear Xm
  go_enter func130,ntmps130
  go_wp2;go_ret;exact⟨by rw [HR.o];rfl,(Below.refl _ _).alloc (Nat.le_refl _) _⟩
 rcases ho:(x.old==x.now)with _|_
 ·have HR:=aa (show ke l x=false by unfold ke;rw [<-Xm,ho];rfl)
  clear Xm
  go_enter func130,ntmps130
  go_wp2;go_ret;exact⟨by rw [HR.o];rfl,(Below.refl _ _).alloc (Nat.le_refl _) _⟩
 have HR:=aa (show ke l x=x.aeg.all λu=>dA l u.m u.n==u.s by unfold ke;rw [<-Xm,ho];rfl);have HO:=aa (HU.o rfl);obtain⟨WN,WO,kh⟩:=ak HO.o
 injection kh with h1 h2 h3
 subst h2;have lF:=aa (aF w (.cells #[.string ⟨x.ag.toArray⟩,.string ⟨x.now.toArray⟩,.bool true,.string ⟨x.old.toArray⟩,.slice uo x.aeg.length uc] 169));clear Xm h1 h3 HU
 go_enter func130,ntmps130
 go_wp2
 go_loopg [5] x.aeg.length (λnn iv wr=>∃j:Nat,nn+j=x.aeg.length/\iv=.int .i64 j/\Hy ((x.aeg.all λu=>dA l u.m u.n==u.s)=(x.aeg.drop j).all λu=>dA l u.m u.n==u.s)/\Hy (Below w.heap.size w wr)/\Hy (wr.heap[w.heap.size]?=some (.cells #[.string ⟨x.ag.toArray⟩,.string ⟨x.now.toArray⟩,.bool true,.string ⟨x.old.toArray⟩,.slice uo x.aeg.length uc] 169 (0,0))))
 case atStart=>exact⟨0,by omega,rfl,aa rfl,aa ((Below.refl _ _).alloc (Nat.le_refl _) _),lF⟩
 obtain⟨j,hj,rfl,Te,HB,HX⟩:=hrel;have t4:=ae HX.o 4;have tl:=af HX.o;simp at t4
 by_cases hlt:j<x.aeg.length
 ·have eu:(j:Int)<(x.aeg.length:Int):=by omega
  have hm:(j:Int)+1<=9223372036854775807:=by omega
  obtain⟨g,cap,hv,eP,d0,d1,d2⟩:=I4 HO.o j hlt
  injection hv with v1 v2 v3
  subst v1 v3;have hgr:g<wr.heap.size:=Nat.lt_of_lt_of_le eP HB.o.size;have e0:=(HB.o.cell eP).trans d0;have e1:=(HB.o.cell eP).trans d1;have e2:=(HB.o.cell eP).trans d2;have HD:=aa (si hlt)
  have hng:¬g=w.heap.size:=by omega
  clear v2 d0 d1 d2;generalize x.aeg[j]=u at*;have HSe:=aa (BR l S wr.drew av ((HA.o.below HB.o).below ((Below.refl _ _).drew)) HZ.o u.m u.n);obtain⟨sn,WM⟩:∃sn,sn=dA l u.m u.n:=⟨_,rfl⟩;rw [<-WM]at HSe;have cC:=aa WM;clear WM
  go_wp2_with fail
  go_cut [6] (λv6 wx=>v6=.string ⟨sn.toArray⟩/\Hy (Below wr.heap.size wr wx))
  case first=>
   go_region_held3 (λw'=>w'.cell? ⟨w.heap.size,4,none⟩=some (.slice (some ⟨g,0,none⟩) x.aeg.length uc)/\w'.cell? ⟨g,j*3,none⟩=some (.string ⟨u.m.toArray⟩)/\w'.cell? ⟨g,j*3+1,none⟩=some (.string ⟨u.n.toArray⟩)) (go_keep)
    (first
     |(go_at_call 185;refine HSe.o.mono ?_;rintro e w5 ⟨rfl,cZ⟩;have x4:=(cZ.cell (show w.heap.size<wr.drew.heap.size from tl)).trans t4;have x0:=(cZ.cell (show g<wr.drew.heap.size from hgr)).trans e0;have x1:=(cZ.cell (show g<wr.drew.heap.size from hgr)).trans e1;have gT:=aa cZ;clear cZ))
   all_goals
    (try go_wp2_with fail)
    go_meet
    exact⟨rfl,aa (((Below.refl _ _).drew).trans gT.o)⟩
  case rest=>
   obtain⟨rfl,lj⟩:=hcut;have y4:=(lj.o.cell tl).trans t4;have y2:=(lj.o.cell hgr).trans e2;have JK:=aa ((lj.o.block _ tl).trans HX.o);have cU:=aa (HB.o.trans (lj.o.mono HB.o.size));have tl2:=af JK.o;have hg2:g<wc.heap.size:=Nat.lt_of_lt_of_le hgr lj.o.size;clear t4 tl e0 e1 e2 hgr
   rcases he:(sn==u.s)with _|_
   ·have HF:=aa (show ke l x=false by rw [HR.o,Te.o,HD.o,List.all_cons,<-cC.o,he];rfl)
    go_wp2;go_ret;exact⟨by rw [HF.o];rfl,cU.o⟩
   ·have HAn:=aa (Te.o.trans (show((x.aeg.drop j).all λu=>dA l u.m u.n==u.s)=(x.aeg.drop (j+1)).all λu=>dA l u.m u.n==u.s by rw [HD.o,List.all_cons,<-cC.o,he];rfl))
    go_wp2
    go_roundg (gk-1)
    case measure=>omega
    case rel=>exact⟨j+1,by omega,by go_num,HAn,cU,JK⟩
 have eu:¬(j:Int)<(x.aeg.length:Int):=by omega
 have HF:=aa (show ke l x=true by rw [HR.o,Te.o,List.drop_eq_nil_of_le (by omega)];rfl);go_wp2;go_ret;exact⟨by rw [HF.o];rfl,HB.o⟩
def I5(w:World)(k:Nat):Prop:=∃c t f,w.heap[k]?=some (.cells c t f)/\t≠251
theorem cW.ty{t:TypeId}{size:Nat}(h:cW S w t size v n xs)(ht:t≠251):cW (λk=>S k/\I5 w k) w t size v n xs:=
 ⟨h.1,λg e=>⟨h.2 g e,by
  rcases h.1.2 with⟨rfl,_⟩|⟨g',cap,aU,rfl,_,hc,_⟩
  ·simp [Value.ownBlock]at e
  ·simp [Value.ownBlock]at e
   subst e
   exact⟨_,_,_,hc,ht⟩⟩⟩
theorem jr.ty(h:jr S w lv iv fv m):jr (λk=>S k/\I5 w k) w lv iv fv m:=by
 refine⟨h.sh,λhb=> ?_⟩;obtain⟨⟨g,cap,a,b,c⟩,d,xs,e,f⟩:=h.ok hb;obtain⟨aU,hc,_⟩:=c.row;exact⟨⟨g,cap,a,⟨b,_,_,_,hc,by decide⟩,c⟩,d.ty (by decide),xs,e.ty (by decide),λj hj=>by obtain⟨pv,kv,x,y,z⟩:=f j hj;exact⟨pv,kv,x,y.ty (by decide),z.ty (by decide)⟩⟩
def Ac(S:Nat->Prop)(w:World)(xs:List Value)(l:List (List UInt8×RM)):Prop:=∀j (h:j<l.length),∃lv iv fv,(∀o,o<6->xs[j*6+o]?=(vy l[j] lv iv fv)[o]?)/\jr S w lv iv fv l[j].2
theorem Ac.keep(h:Ac S w xs l)(hk:∀k,S k->k<w.heap.size->S' k/\w'.heap[k]?=w.heap[k]?):Ac S' w' xs l:=λj hj=>by
 obtain⟨lv,iv,fv,a,b⟩:=h j hj;exact⟨lv,iv,fv,a,b.keep hk⟩
theorem Ac.snoc(h:Ac S w xs l)(hl:xs.length=l.length*6){x:List UInt8×RM}(hx:jr S w lv iv fv x.2):Ac S w (xs++vy x lv iv fv) (l++ [x]):=λj hj=>by
 by_cases hlt:j<l.length
 ·obtain⟨a,b,c,d,e⟩:=h j hlt
  refine⟨a,b,c,λo ho=> ?_,?_⟩
  ·rw [List.getElem_append_left hlt,<-d o ho,List.getElem?_append_left (by omega)]
  ·rw [List.getElem_append_left hlt];exact e
 ·have LB:j=l.length:=by simp at hj;omega
  subst LB;refine⟨lv,iv,fv,λo ho=> ?_,?_⟩
  ·rw [List.getElem?_append_right (by omega)]
   simp [hl]
  ·simpa using hx
theorem FU:(prog.info? 251).map (λi=>(i.zero,i.size,i.bytes))=some (some (.agg #[.string ⟨#[]⟩,.slice none 0 0,.slice none 0 0,.slice none 0 0,.bool false,.int .i64 0]),6,104):=by kernel_rfl
theorem Xn(w:World)(a0 a1 a2 a3 a4 a5:Value)(t:TypeId):∀j u,[a0,a1,a2,a3,a4,a5][j]?=some u->(w.alloc (.cells #[a0,a1,a2,a3,a4,a5] t)).cell? ((⟨w.heap.size,0,none⟩:Addr).add j)=some u:=by
 intro j u hj
 match j,hj with
 |0,hj=>simp at hj;subst hj;simp [Addr.add]
 |1,hj=>simp at hj;subst hj;simp [Addr.add]
 |2,hj=>simp at hj;subst hj;simp [Addr.add]
 |3,hj=>simp at hj;subst hj;simp [Addr.add]
 |4,hj=>simp at hj;subst hj;simp [Addr.add]
 |5,hj=>simp at hj;subst hj;simp [Addr.add]
def xy(l:List wU)(ms:List (List UInt8×RM)):Prop:=ms.length=l.length/\∀j (h1:j<l.length) (h2:j<ms.length),ms[j].1=l[j].ag/\Dp l[j].now ms[j].2
theorem xy.snoc{l:List wU}(h:xy l ms)(hx:Dp x.now m):xy (l++ [x]) (ms++ [(x.ag,m)]):=by
 refine⟨by simp [h.1],λj h1 h2=> ?_⟩;have e:=h.1
 by_cases hj:j<l.length
 ·rw [List.getElem_append_left hj,List.getElem_append_left (by omega)]
  exact h.2 j hj (by omega)
 have:j=l.length:=by simp at h1;omega
 subst this;rw [List.getElem_append_right (by omega),List.getElem_append_right (by omega)];simpa [e]using hx
def aa2(l:List wU)(w:World)(e:Ending)(w':World):Prop:=∃av ms,e=.returned av/\Below w.heap.size w w'/\eL (λk=>w.heap.size<=k/\k<w'.heap.size) w' av ms/\xy l ms
theorem Me{lo:Nat}(ho:w.ownsRow lo 251 6 v n xs)(hg:w.grownBy w' v.ownBlock)(b:Nat):∀k,(b<=k/\I5 w k)->k<w.heap.size->(b<=k/\I5 w' k)/\w'.heap[k]?=w.heap[k]?:=by
 intro k hS hk;obtain⟨h1,c,t,f,a,h2⟩:=hS
 have e:w'.heap[k]?=w.heap[k]?:=hg.block k hk λe=>by
  rcases ho.2 with⟨rfl,_⟩|⟨g',cap,aU,rfl,_,hc,_⟩
  ·simp [Value.ownBlock]at e
  ·simp [Value.ownBlock]at e
   subst e;rw [hc]at a
   injection a with a
   injection a with _ e _
   exact h2 e.symm
 exact⟨⟨h1,c,t,f,e.trans a,h2⟩,e⟩
theorem FV(l:List wU)(S:Nat->Prop)(w:World)(sb:Nat)(XS a1 a2 a3:Value)(hb:w.heap[sb]?=some (.cells #[XS,a1,a2,a3] 121 (0,0)))(h:eW S w XS l)(ht:∀x∈l,x.now.length<=600)(hl:l.length<=1000):
  Calls prog 129 #[.pointer (some ⟨sb,0,none⟩)] w (aa2 l w):=by
 have HF:=aa h.cells
 have se:∃o c,XS=.slice o l.length c:=by
  rcases h.cells with⟨rfl,rfl⟩|⟨g,cap,rfl,_⟩
  ·exact⟨_,_,rfl⟩
  ·exact⟨_,_,rfl⟩
 obtain⟨fo,fc,rfl⟩:=se;have c0:=ae hb 0;have cl:=af hb;simp at c0;have HT:=aa ht;clear h hb ht
 go_enter func129,ntmps129
 go_wp2
 go_loopg [3,4] l.length (λnn v3 iv wr=>∃(j:Nat) (ms:List (List UInt8×RM)) (xs:List Value),nn+j=l.length/\iv=.int .i64 j/\Hy (xy (l.take j) ms)/\Hy (wr.ownsRow w.heap.size 251 6 v3 j xs)/\Hy (Ac (λk=>w.heap.size<=k/\I5 wr k) wr xs ms)/\Hy (Below w.heap.size w wr))
 case atStart=>exact⟨0,[],[],by omega,rfl,aa ⟨rfl,λj h=>absurd h (by simp)⟩,aa (World.ownsRow_nil _ _ _ _),aa (λj h=>absurd h (by simp)),aa (Below.refl _ _)⟩
 obtain⟨j,ms,xs,hj,rfl,Yx,HO,Te,HB⟩:=hrel;have c0r:=(HB.o.cell cl).trans c0;have clr:sb<wr.heap.size:=Nat.lt_of_lt_of_le cl HB.o.size;have hwr:=HB.o.size
 by_cases hlt:j<l.length
 ·have E2:(j:Int)<(l.length:Int):=by omega
  have hm:(j:Int)+1<=9223372036854775807:=by omega
  rcases HF.o with⟨_,hnil⟩|⟨g,cap,hv,eP,gO,qU,hcs⟩
  ·rw [hnil]at hlt;simp at hlt
  ·injection hv with v1 v2 v3
   subst v1 v3;obtain⟨uv,d0,d1,_⟩:=hcs j hlt;have ou:=aa (List.take_append_getElem hlt).symm;have HTj:=aa (HT.o l[j] (List.getElem_mem hlt));have e0:=(HB.o.cell eP).trans d0;have e1:=(HB.o.cell eP).trans d1;have hgr:g<wr.heap.size:=Nat.lt_of_lt_of_le eP HB.o.size;clear hcs v2 d0 d1;generalize l[j]=x at*
   go_wp2_with fail
   refine(Qg x.now (by have:=HTj.o;omega) wr).mono ?_;rintro e w3 ⟨lv,iv,fv,m,rfl,hb3,hr3,hro⟩;obtain⟨⟨lo,ln,lc,rfl⟩,⟨io,Fw,ic,rfl⟩,⟨Xo,Xp,Xq,rfl⟩⟩:=hr3.sh;obtain⟨ob,xM⟩:∃ob,ob=Obj.cells #[.slice lo ln lc,.slice io Fw ic,.slice Xo Xp Xq,.bool m.bad,.int .i64 m.ai] 249 (0,0):=⟨_,rfl⟩;have I6:Below wr.heap.size wr (w3.alloc ob):=hb3.alloc hb3.size ob;have f0:=(I6.cell hgr).trans e0;have s0:=(I6.cell clr).trans c0r;have HOm:=aa (aM HO.o (w':=w3.alloc ob) λk e=>I6.block k (aQ HO.o k e).2);have Yu:=aa (Te.o.keep (S':=λk=>w.heap.size<=k/\I5 (w3.alloc ob) k) (w':=w3.alloc ob) λk hS hk=>⟨⟨hS.1,by obtain⟨c,t,f,a,b⟩:=hS.2;exact⟨c,t,f,(I6.block k hk).trans a,b⟩⟩,I6.block k hk⟩);have SX:=aa (hr3.ty.keep (S':=λk=>w.heap.size<=k/\I5 (w3.alloc ob) k) (w':=w3.alloc ob) λk hS hk=>⟨⟨by have:=hS.1.1;omega,by obtain⟨c,t,f,a,b⟩:=hS.2;exact⟨c,t,f,(Below.heap_alloc _ _ _ hk).trans a,b⟩⟩,Below.heap_alloc _ _ _ hk⟩);have HBm:=aa (HB.o.trans (I6.mono hwr));have G2:=aa (aF w3 ob);have HRo:=aa hro;have hs3:=hb3.size;obtain⟨vo,vc,Wj⟩:=ak HO.o;subst Wj;rw [xM]at HOm Yu SX HBm G2 f0 s0;clear hb3 I6 hr3 hro e0 e1 c0r xM
   go_wp2_with fail
   have kp:=aa (show ∀u∈ [Value.string ⟨x.ag.toArray⟩,.slice lo ln lc,.slice io Fw ic,.slice Xo Xp Xq,.bool m.bad,.int .i64 m.ai],u.oneCell'=true by
    intro u hu;simp only [List.mem_cons,List.not_mem_nil,or_false]at hu
    rcases hu with rfl|rfl|rfl|rfl|rfl|rfl<;>rfl)
   have Ot:g<(w3.alloc (.cells #[.slice lo ln lc,.slice io Fw ic,.slice Xo Xp Xq,.bool m.bad,.int .i64 m.ai] 249)).heap.size:=by simp;omega
   have hsm:sb<(w3.alloc (.cells #[.slice lo ln lc,.slice io Fw ic,.slice Xo Xp Xq,.bool m.bad,.int .i64 m.ai] 249)).heap.size:=by simp;omega
   generalize w3.alloc (.cells #[.slice lo ln lc,.slice io Fw ic,.slice Xo Xp Xq,.bool m.bad,.int .i64 m.ai] 249)=wm at*;have m0:=ae G2.o 0;have m1:=ae G2.o 1;have m2:=ae G2.o 2;have m3:=ae G2.o 3;have m4:=ae G2.o 4;have mlt:=af G2.o;simp at m0 m1 m2 m3 m4
   have b1:j+1<=maxLen:=by unfold maxLen;omega
   have b2:(j+1)*104<=140737488355328:=by omega
   have pZ:=aa (show w.heap.size<=(wm.drew.alloc (.cells #[.string ⟨x.ag.toArray⟩,.slice lo ln lc,.slice io Fw ic,.slice Xo Xp Xq,.bool m.bad,.int .i64 m.ai] 251)).heap.size by have:=HBm.o.size;simp;omega);obtain⟨i0,hi,hz0,hz1,hz2⟩:=info_parts FU
   go_region_law (refine cv rfl (.tmp 24) (.tmp 35) 119 rfl w.heap.size 251 i0 (.agg #[.string ⟨#[]⟩,.slice none 0 0,.slice none 0 0,.slice none 0 0,.bool false,.int .i64 0]) 6 104 underlying119 hi hz0 hz1 hz2 rfl (by decide) (.slice vo j vc) j xs ?_ ?_ ⟨wm.heap.size,0,none⟩ 1 1 [.string ⟨x.ag.toArray⟩,.slice lo ln lc,.slice io Fw ic,.slice Xo Xp Xq,.bool m.bad,.int .i64 m.ai] ?_ rfl ?_ kp.o b1 b2 ?_ ?_;(simp [Act.eval,Act.put]);(exact(World.ownsRow.drew HOm.o).alloc _);(simp [Act.eval,Act.put]);(exact(Xn wm.drew _ _ _ _ _ _ _));(exact pZ.o);intro v' w4 hown aB aJ;obtain⟨g4,c4,cu4,rfl,_⟩:=cN hown (by omega);have HG:=aa (dS (aA aB));have ot:=aa hown;clear hown aB aJ)
   all_goals
    clear hi hz0 hz1 hz2;go_wp2
    go_roundg (gk-1)
    case measure=>omega
    case rel=>
     have hk:=Me HOm.o HG.o w.heap.size
     have gO:ms.length=j:=by have:=Yx.o.1;rw [List.length_take]at this;omega
     refine⟨j+1,ms++ [(x.ag,m)],_,by omega,by go_num,aa (by rw [ou.o];exact Yx.o.snoc HRo.o),ot,aa ((Yu.o.keep hk).snoc (x:=(x.ag,m)) (by have:=HOm.o.1;rw [gO];exact this) (SX.o.keep hk)),aa (HBm.o.trans (dF HG.o (λk e=>(aG HOm.o k e).1) (by have:=HBm.o.size;omega)))⟩
 have E2:¬(j:Int)<(l.length:Int):=by omega
 have Xg:=aa (show xy l ms by have:=Yx.o;rw [List.take_of_length_le (by omega)]at this;exact this);go_wp2;go_ret;refine⟨_,ms,rfl,HB.o,⟨xs,?_,λk hk=> ?_⟩,Xg.o⟩
 ·have:=cW.of HO.o
  have gO:ms.length=j:=by have:=Xg.o.1;omega
  rw [gO];exact this
 obtain⟨lv,iv,fv,a,b⟩:=Te.o k hk;exact⟨lv,iv,fv,a,b.keep λq hS hq=>⟨⟨hS.1,hq⟩,rfl⟩⟩
def uk(L:List Md)(ms:List (List UInt8×RM)):Prop:=ms.length=L.length/\∀j (h1:j<L.length) (h2:j<ms.length),ms[j].1=L[j].ag/\Dp L[j].now ms[j].2
theorem uk.cons{y:Md}{z:List UInt8×RM}(h:uk (y::L) (z::ms)):z.1=y.ag/\Dp y.now z.2/\uk L ms:=by
 obtain⟨a,b⟩:=h;have b0:=b 0 (by simp) (by simp);refine⟨b0.1,b0.2,by simpa using a,λj h1 h2=> ?_⟩;have:=b (j+1) (by simpa using h1) (by simpa using h2);simpa using this
theorem Mf{n:List UInt8}(h:∀x∈ms,x.1≠n):rD n ms=none:=by
 induction ms with
 |nil=>rfl
 |cons x r ih=>
  unfold rD;rw [if_neg (by have:=h x (by simp);simp [this])]
  exact ih λy hy=>h y (by simp [hy])
theorem uk.aZ(h:uk L ms):∀x∈ms,x.1∈aZ L:=by
 induction L generalizing ms with
 |nil=>
  intro x hx;have:ms= []:=List.eq_nil_of_length_eq_zero h.1;rw [this]at hx;cases hx
 |cons y r ih=>
  cases ms with
  |nil=>exact absurd h.1 (by simp)
  |cons z q=>
   obtain⟨a,_,c⟩:=h.cons;intro x hx
   rcases List.mem_cons.1 hx with rfl|hx
   ·simp [a]
   ·have:=ih c x hx
    simp only [List.map_cons,List.mem_cons];exact Or.inr this
theorem JQ(h:uk L ms)(hn:(aZ L).Nodup):AR ms (aP L):=by
 intro n;unfold aP getM
 induction L generalizing ms with
 |nil=>
  have:ms= []:=List.eq_nil_of_length_eq_zero h.1;subst this;exact Or.inl ⟨rfl,rfl⟩
 |cons y r ih=>
  cases ms with
  |nil=>exact absurd h.1 (by simp)
  |cons z q=>
   obtain⟨a,b,c⟩:=h.cons;obtain⟨hy,hr⟩:=List.nodup_cons.1 hn
   by_cases e:y.ag=n
   ·have hz:z.1=n:=a.trans e
    have hq:rD n q=none:=Mf λx hx e'=>hy (by have:=c.aZ x hx;rw [e',<-e]at this;exact this)
    rw [List.find?_cons_of_pos (by simp [e])]
    rcases b.form with⟨h1,h2⟩|⟨h1,md,h2,h3⟩
    ·refine Or.inl ⟨?_,by simpa using h2⟩
     unfold rD;rw [if_neg (by simp [h1])];exact hq
    ·refine Or.inr ⟨z.2,md,?_,by simpa using h2,h3⟩
     unfold rD;rw [if_pos (by simp [hz,h1])]
   ·rw [List.find?_cons_of_neg (by simp [e])]
    have hz:z.1≠n:=λe'=>e (a.symm.trans e')
    have:rD n (z::q)=rD n q:=by
     show(if _ then _ else _)=_;rw [if_neg (by simp [hz])]
    rw [this];exact ih c hr
structure sV (x:wU) (m:Md):Prop where
 ag:x.ag=m.ag
 now:x.now=m.now
 has:x.has=m.obj.isSome
 obj:∀o,m.obj=some o->x.old=o.aX/\x.aeg=o.aeg
theorem I7{all:List (List UInt8×RM)}(h:AR all E){m:Md}(hx:sV x m):ke all x=curr E m:=by
 unfold ke curr
 rcases ho:m.obj with _|o
 ·rw [hx.has,ho];rfl
 obtain⟨a,b⟩:=hx.obj o ho;rw [hx.has,ho,a,b,hx.now];simp only [Option.isSome_some,Bool.true_and]
 congr 1
 apply List.all_congr rfl
 intro u;rw [sA h];rfl
theorem JR{o:List (Nm×Nm)}:∀{K:List (Nm×Nm)},o.Nodup->(∀x∈o,x∈K)->o.length<=K.length:=by
 induction o with
 |nil=>intro K _ _;simp
 |cons x r ih=>
  intro K h hs;obtain⟨hx,hr⟩:=List.nodup_cons.1 h;have hxK:=hs x (by simp)
  have:=ih (K:=K.erase x) hr λy hy=>(List.mem_erase_of_ne (λ(e:y=x)=>hx (by rw [<-e];exact hy))).2 (hs y (by simp [hy]))
  have hl:=List.length_erase_of_mem hxK;have jR:0<K.length:=List.length_pos_of_mem hxK;simp only [List.length_cons];omega
theorem FQ.nodup{K o:List (Nm×Nm)}(h:FQ K o):o.Nodup:=h.up.imp λ{a b} hab e=>by rw [e,gA]at hab;cases hab
theorem FQ.all{K o:List (Nm×Nm)}(h:FQ K o)(hK:K.Nodup)(hl:o.length=K.length):o=bT (eK K):=by
 refine JO h.up λx=>⟨h.sub x,λhx=> ?_⟩
 by_cases hno:x∈o
 ·exact hno
 have:=JR (o:=x::o) (K:=K) (List.nodup_cons.2 ⟨hno,h.nodup⟩) (λy hy=>by rcases List.mem_cons.1 hy with rfl|hy;exact hx;exact h.sub y hy);simp only [List.length_cons]at this;omega
theorem FQ.some{K o:List (Nm×Nm)}(h:FQ K o)(hK:K.Nodup)(hl:o.length<K.length):∃x∈K,x∉o:=by
 by_cases hh:∃x∈K,x∉o
 ·exact hh
 have:=JR (o:=K) (K:=o) hK (λx hx=>by
  by_cases hx2:x∈o
  ·exact hx2
  ·exact absurd ⟨x,hx,hx2⟩ hh)
 omega
def vF(K o:List (Nm×Nm))(i:Nat)(b:Option Nat):Prop:=
 match b with
 |none=>∀x∈K.take i,x∈o
 |some q=>∃h:q<K.length,q<i/\K[q]∉o/\∀x∈K.take i,x∉o->kK x K[q]=false
def Ce:Option Nat->Int
 |none=> -1
 |some q=>(q:Int)
theorem vF.o{K o:List (Nm×Nm)}(h:vF K o i b)(hi:i<K.length)(hx:K[i]∈o):vF K o (i+1) b:=by
 have ht:∀x∈K.take (i+1),x∈K.take i\/x=K[i]:=λx hx=>by rw [List.take_succ_eq_append_getElem hi]at hx;rcases List.mem_append.1 hx with hx|hx;exact Or.inl hx;exact Or.inr (List.mem_singleton.1 hx)
 cases b with
 |none=>exact λx Oq=>(ht x Oq).elim (h x) (λe=>by rw [e];exact hx)
 |some q=>
  obtain⟨h1,h2,h3,h4⟩:=h;exact⟨h1,by omega,h3,λx Oq hno=>(ht x Oq).elim (λe=>h4 x e hno) (λe=>absurd (e▸hx) hno)⟩
theorem vF.new{K o:List (Nm×Nm)}(h:vF K o i b)(hi:i<K.length)(hx:K[i]∉o)(hb:∀q,b=some q->∀hq:q<K.length,kK K[i] K[q]=true):vF K o (i+1) (some i):=by
 have ht:∀x∈K.take (i+1),x∈K.take i\/x=K[i]:=λx hx=>by rw [List.take_succ_eq_append_getElem hi]at hx;rcases List.mem_append.1 hx with hx|hx;exact Or.inl hx;exact Or.inr (List.mem_singleton.1 hx)
 refine⟨hi,by omega,hx,λx Oq hno=> ?_⟩
 rcases ht x Oq with e|e
 ·cases b with
  |none=>exact absurd (h x e) hno
  |some q=>
   obtain⟨h1,h2,h3,h4⟩:=h;have h5:=h4 x e hno;have h6:=hb q rfl h1
   rcases hl:kK x K[i]with _|_
   ·rfl
   ·rw [kL hl h6]at h5;cases h5
 rw [e,gA]
theorem vF.old{K o:List (Nm×Nm)}{q:Nat}(h:vF K o i (some q))(hi:i<K.length)(hb:∀hq:q<K.length,kK K[i] K[q]=false):vF K o (i+1) (some q):=by
 have ht:∀x∈K.take (i+1),x∈K.take i\/x=K[i]:=λx hx=>by rw [List.take_succ_eq_append_getElem hi]at hx;rcases List.mem_append.1 hx with hx|hx;exact Or.inl hx;exact Or.inr (List.mem_singleton.1 hx)
 obtain⟨h1,h2,h3,h4⟩:=h;exact⟨h1,by omega,h3,λx Oq hno=>(ht x Oq).elim (λe=>h4 x e hno) (λe=>by rw [e];exact hb h1)⟩
theorem vF.done{K o:List (Nm×Nm)}(h:vF K o K.length b)(hn:FQ K o)(hK:K.Nodup)(hl:o.length<K.length):∃q,∃hq:q<K.length,b=some q/\FQ K (o++ [K[q]]):=by
 cases b with
 |none=>
  obtain⟨x,hx,hno⟩:=hn.some hK hl;exact absurd (h x (by rw [List.take_length];exact hx)) hno
 |some q=>
  obtain⟨h1,h2,h3,h4⟩:=h;exact⟨q,h1,rfl,hn.snoc (List.getElem_mem h1) h3 λx hx hno=>h4 x (by rw [List.take_length];exact hx) hno⟩
def aa3(sf:Nm×Nm->List UInt8)(K:List (Nm×Nm))(w:World)(e:Ending)(w':World):Prop:=∃ov,e=.returned ov/\Below w.heap.size w w'/\w'.ownsRow w.heap.size 185 3 ov (bT (eK K)).length (dz sf (bT (eK K)))
theorem I8(sf:Nm×Nm->List UInt8)(K:List (Nm×Nm))(hK:K.Nodup)(hl:K.length<=1000000000)(b:Nat)(v:Value)(w:World)(h:w.ownsRow b 185 3 v K.length (dz sf K)):Calls prog 191 #[v] w (aa3 sf K w):=by
 obtain⟨vo,vc,hv0⟩:=ak h;subst hv0;have oM:=aa h;have HK:=aa hK;clear h hK
 go_enter func191,ntmps191
 go_wp2
 go_loopg [3] K.length (λnn v3 wr=>∃o:List (Nm×Nm),nn+o.length=K.length/\Hy (FQ K o)/\Hy (wr.ownsRow w.heap.size 185 3 v3 o.length (dz sf o))/\Hy (Below w.heap.size w wr))
 case atStart=>exact⟨[],by simp,aa (FQ.nil K),aa (World.ownsRow_nil _ _ _ _),aa (Below.refl _ _)⟩
 obtain⟨o,ho,HN,HO,HB⟩:=hrel;obtain⟨oo,oc,zz⟩:=ak HO.o;subst zz;obtain⟨go,hgo⟩:∃x,x=gk:=⟨_,rfl⟩;subst hgo;obtain⟨wo,Ww⟩:∃y,y=wr:=⟨_,rfl⟩;subst Ww
 by_cases hlt:o.length<K.length
 ·have eu:(o.length:Int)<(K.length:Int):=by omega
  go_wp2
  go_loopg [4,5] K.length (λnn v4 v5 wr=>∃(i:Nat) (bs:Option Nat),nn+i=K.length/\v5=.int .i64 i/\v4=.int .i64 (Ce bs)/\Hy (vF K o i bs)/\Hy (wr.ownsRow w.heap.size 185 3 (.slice oo o.length oc) o.length (dz sf o))/\Hy (Below w.heap.size w wr))
  case atStart=>exact⟨0,none,by omega,rfl,rfl,aa (λx hx=>by simp at hx),HO,HB⟩
  case round=>
   obtain⟨i,bs,hi,rfl,rfl,JS,HOr,eM⟩:=hrel;have hwr:=eM.o.size;have U0:=aa (aM oM.o (w':=wr) λk e=>eM.o.block k (aQ oM.o k e).2)
   by_cases hik:i<K.length
   ·have acq:(i:Int)<(K.length:Int):=by omega
    have him:(i:Int)+1<=9223372036854775807:=by omega
    obtain⟨g,cap,hv,eP,e0,e1,e2⟩:=kQ U0.o i hik
    injection hv with v1 v2 v3
    subst v1 v3;have VE:=aa (show K[i]∈K from List.getElem_mem hik);have OH:=aa (λhx=>JS.o.o hik hx);have uq:=aa (λhx hb=>JS.o.new hik hx hb);have Mg:=aa (λq (hq:bs=some q) hb=>(show vF K o (i+1) (some q) by have:=JS.o;rw [hq]at this;exact this.old hik hb));obtain⟨x,hx⟩:∃x,x=K[i]:=⟨_,rfl⟩;rw [<-hx]at e0 e1 e2 VE OH uq Mg;clear v2 hx;have Ar:=aa hi;have Sl:=aa ho;clear hi ho
    by_cases hoe:o.length=0
    ·have hoz:((o.length:Int)==0)=true:=by rw [hoe];rfl
     have F4:=aa (show x∉o by rw [List.eq_nil_of_length_eq_zero hoe];simp);clear hoe
     rcases bs with _|q
     ·have eC:=aa (uq.o F4.o (λq h=>by cases h))
      have Tf:Ce none= -1:=rfl;rw [Tf];go_wp2
      go_roundg (gk-1)
      case measure=>have:=Ar.o;omega
      case rel=>exact⟨i+1,some i,by have:=Ar.o;omega,by go_num,rfl,eC,HOr,eM⟩
     ·obtain⟨hq,Ua,_,_⟩:=JS.o
      have QC:(q:Int)<(K.length:Int):=by omega
      have Ys:¬(q:Int)<0:=by omega
      obtain⟨g2,wN,hv,_,f0,f1,f2⟩:=kQ U0.o q hq
      injection hv with v1 v2 v3
      injection v1 with v1
      injection v1 with v1
      subst v1;clear v2 v3;have HNq:=aa (λ(ht:kK x K[q]=true)=>uq.o F4.o (λq' h QC=>by injection h with h;subst h;exact ht));have HOq:=aa (λ(hf:kK x K[q]=false)=>Mg.o q rfl (λ_=>hf));generalize sf K[q]=sy at*;generalize K[q]=y at*;generalize sf x=sx at*;have Tf:Ce (some q)=(q:Int):=rfl;rw [Tf];have M7:=aa (wS x y sx sy wr.drew);obtain⟨ah,hah⟩:∃ah,ah=kK x y:=⟨_,rfl⟩;rw [<-hah]at M7 HNq HOq;clear hah
      go_wp2_with fail
      go_cut [7] (λv7 wx=>v7=.bool ah/\Hy (Below wr.heap.size wr wx))
      case first=>
       go_region_held3 (λw'=>w'.cell? ⟨g,i*3,none⟩=some (.string ⟨x.1.toArray⟩)/\w'.cell? ⟨g,i*3+1,none⟩=some (.string ⟨x.2.toArray⟩)/\w'.cell? ⟨g,i*3+2,none⟩=some (.string ⟨sx.toArray⟩)/\w'.cell? ⟨g,q*3,none⟩=some (.string ⟨y.1.toArray⟩)/\w'.cell? ⟨g,q*3+1,none⟩=some (.string ⟨y.2.toArray⟩)/\w'.cell? ⟨g,q*3+2,none⟩=some (.string ⟨sy.toArray⟩)) (go_keep)
        (first
         |(go_at_call 241;refine M7.o.mono ?_;rintro e w5 ⟨rfl,cZ⟩;have x0:=(cZ.cell (show g<wr.drew.heap.size from eP)).trans e0;have x1:=(cZ.cell (show g<wr.drew.heap.size from eP)).trans e1;have x2:=(cZ.cell (show g<wr.drew.heap.size from eP)).trans e2;have y0:=(cZ.cell (show g<wr.drew.heap.size from eP)).trans f0;have y1:=(cZ.cell (show g<wr.drew.heap.size from eP)).trans f1;have y2:=(cZ.cell (show g<wr.drew.heap.size from eP)).trans f2;have gT:=aa cZ;clear cZ))
       all_goals
        (try go_wp2_with fail)
        go_meet
        exact⟨rfl,aa (((Below.refl _ _).drew).trans gT.o)⟩
      case rest=>
       obtain⟨rfl,lF⟩:=hcut;have et:=aa (aM HOr.o (w':=wc) λk e=>lF.o.block k (aQ HOr.o k e).2);have cU:=aa (eM.o.trans (lF.o.mono hwr))
       rcases ah with _|_
       ·have qd:=aa (HOq.o rfl)
        go_wp2
        go_roundg (gk-1)
        case measure=>have:=Ar.o;omega
        case rel=>exact⟨i+1,some q,by have:=Ar.o;omega,by go_num,rfl,qd,et,cU⟩
       ·have qd:=aa (HNq.o rfl)
        go_wp2
        go_roundg (gk-1)
        case measure=>have:=Ar.o;omega
        case rel=>exact⟨i+1,some i,by have:=Ar.o;omega,by go_num,rfl,qd,et,cU⟩
    ·have hoz:((o.length:Int)==0)=false:=by rw [beq_eq_false_iff_ne];omega
     obtain⟨p,hp⟩:∃p,o.length=p+1:=⟨o.length-1,by omega⟩
     have hpl:p<o.length:=by omega
     obtain⟨go2,adG,hv,Tg,d0,d1,d2⟩:=kQ HOr.o p hpl
     injection hv with v1 v2 v3
     subst v1
     have V6:IntKind.i64.wrap ((o.length:Int)-1)=(p:Int):=by rw [C1 _ (by omega) (by omega)];omega
     have hpo:(p:Int)<(o.length:Int):=by omega
     have Xr:=aa (HN.o.behind (z:=o[p]) (by rw [List.getLast?_eq_getElem?];simp [hp]) VE.o);have aa4:=aa (wS o[p] x (sf o[p]) (sf x) wr.drew);obtain⟨bh,hbh⟩:∃bh,bh=kK o[p] x:=⟨_,rfl⟩;rw [<-hbh]at Xr aa4;have HBh:=aa (show(bh=false->x∈o)/\(bh=true->x∉o)from⟨λh=>by by_cases hx:x∈o;exact hx;exact absurd (Xr.o.2 hx) (by rw [h];simp),λh=>Xr.o.1 h⟩);have HHp:=aa hp;clear hbh v2 v3 hoe hp;generalize sf o[p]=sz at*;generalize o[p]=z at*
     go_wp2_with fail
     go_cut [6] (λv6 wx=>v6=.bool bh/\Hy (Below wr.heap.size wr wx))
     case first=>
      go_region_held3 (λw'=>w'.cell? ⟨g,i*3,none⟩=some (.string ⟨x.1.toArray⟩)/\w'.cell? ⟨g,i*3+1,none⟩=some (.string ⟨x.2.toArray⟩)/\w'.cell? ⟨g,i*3+2,none⟩=some (.string ⟨(sf x).toArray⟩)/\w'.cell? ⟨go2,p*3,none⟩=some (.string ⟨z.1.toArray⟩)/\w'.cell? ⟨go2,p*3+1,none⟩=some (.string ⟨z.2.toArray⟩)/\w'.cell? ⟨go2,p*3+2,none⟩=some (.string ⟨sz.toArray⟩)) (go_keep)
       (first
        |(go_at_call 241;refine aa4.o.mono ?_;rintro e w5 ⟨rfl,cZ⟩;have x0:=(cZ.cell (show g<wr.drew.heap.size from eP)).trans e0;have x1:=(cZ.cell (show g<wr.drew.heap.size from eP)).trans e1;have x2:=(cZ.cell (show g<wr.drew.heap.size from eP)).trans e2;have y0:=(cZ.cell (show go2<wr.drew.heap.size from Tg)).trans d0;have y1:=(cZ.cell (show go2<wr.drew.heap.size from Tg)).trans d1;have y2:=(cZ.cell (show go2<wr.drew.heap.size from Tg)).trans d2;have gT:=aa cZ;clear cZ))
      all_goals
       (try go_wp2_with fail)
       go_meet
       exact⟨rfl,aa (((Below.refl _ _).drew).trans gT.o)⟩
     case rest=>
      obtain⟨rfl,I9⟩:=hcut;obtain⟨wd,hwd⟩:∃y,y=wc:=⟨_,rfl⟩;subst hwd;have p0:=(I9.o.cell eP).trans e0;have p1:=(I9.o.cell eP).trans e1;have p2:=(I9.o.cell eP).trans e2;have hgd:g<wd.heap.size:=Nat.lt_of_lt_of_le eP I9.o.size;have HOd:=aa (aM HOr.o (w':=wd) λk e=>I9.o.block k (aQ HOr.o k e).2);have Vr:=aa (aM U0.o (w':=wd) λk e=>I9.o.block k (aQ U0.o k e).2);have pZ:=aa (eM.o.trans (I9.o.mono hwr));have acr:=pZ.o.size;clear d0 d1 d2 e0 e1 e2 Tg
      rcases bs with _|q
      ·have Tf:Ce none= -1:=rfl
       rw [Tf]
       rcases bh with _|_
       ·have qd:=aa (OH.o (HBh.o.1 rfl))
        go_wp2
        go_roundg (gk-1)
        case measure=>have:=Ar.o;omega
        case rel=>exact⟨i+1,none,by have:=Ar.o;omega,by go_num,rfl,qd,HOd,pZ⟩
       ·have qd:=aa (uq.o (HBh.o.2 rfl) (λq h=>by cases h))
        go_wp2
        go_roundg (gk-1)
        case measure=>have:=Ar.o;omega
        case rel=>exact⟨i+1,some i,by have:=Ar.o;omega,by go_num,rfl,qd,HOd,pZ⟩
      ·obtain⟨hq,Ua,_,_⟩:=JS.o
       have QC:(q:Int)<(K.length:Int):=by omega
       have Ys:¬(q:Int)<0:=by omega
       obtain⟨g2,wN,hv,_,f0,f1,f2⟩:=kQ Vr.o q hq
       injection hv with v1 v2 v3
       injection v1 with v1
       injection v1 with v1
       subst v1;clear v2 v3;have HNq:=aa (λ(hno:x∉o) (ht:kK x K[q]=true)=>uq.o hno (λq' h QC=>by injection h with h;subst h;exact ht));have HOq:=aa (λ(hf:kK x K[q]=false)=>Mg.o q rfl (λ_=>hf));generalize sf K[q]=sy at*;generalize K[q]=y at*;generalize sf x=sx at*;have Tf:Ce (some q)=(q:Int):=rfl;rw [Tf];have M7:=aa (wS x y sx sy wd.drew);obtain⟨ah,hah⟩:∃ah,ah=kK x y:=⟨_,rfl⟩;rw [<-hah]at M7 HNq HOq;clear hah
       go_wp2_with fail
       go_cut [7] (λv7 wx=>v7=.bool ah/\Hy (Below wd.heap.size wd wx))
       case first=>
        go_region_held3 (λw'=>w'.cell? ⟨g,i*3,none⟩=some (.string ⟨x.1.toArray⟩)/\w'.cell? ⟨g,i*3+1,none⟩=some (.string ⟨x.2.toArray⟩)/\w'.cell? ⟨g,i*3+2,none⟩=some (.string ⟨sx.toArray⟩)/\w'.cell? ⟨g,q*3,none⟩=some (.string ⟨y.1.toArray⟩)/\w'.cell? ⟨g,q*3+1,none⟩=some (.string ⟨y.2.toArray⟩)/\w'.cell? ⟨g,q*3+2,none⟩=some (.string ⟨sy.toArray⟩)) (go_keep)
         (first
          |(go_at_call 241;refine M7.o.mono ?_;rintro e w5 ⟨rfl,cZ⟩;have x0:=(cZ.cell (show g<wd.drew.heap.size from hgd)).trans p0;have x1:=(cZ.cell (show g<wd.drew.heap.size from hgd)).trans p1;have x2:=(cZ.cell (show g<wd.drew.heap.size from hgd)).trans p2;have y0:=(cZ.cell (show g<wd.drew.heap.size from hgd)).trans f0;have y1:=(cZ.cell (show g<wd.drew.heap.size from hgd)).trans f1;have y2:=(cZ.cell (show g<wd.drew.heap.size from hgd)).trans f2;have gT:=aa cZ;clear cZ))
        all_goals
         (try go_wp2_with fail)
         go_meet
         exact⟨rfl,aa (((Below.refl _ _).drew).trans gT.o)⟩
       case rest=>
        obtain⟨rfl,lF⟩:=hcut;have et:=aa (aM HOd.o (w':=wc) λk e=>lF.o.block k (aQ HOd.o k e).2);have cU:=aa (pZ.o.trans (lF.o.mono acr))
        rcases bh with _|_
        ·have qd:=aa (OH.o (HBh.o.1 rfl))
         rcases ah with _|_
         all_goals
          go_wp2
          go_roundg (gk-1)
          case measure=>have:=Ar.o;omega
          case rel=>exact⟨i+1,some q,by have:=Ar.o;omega,by go_num,rfl,qd,et,cU⟩
        ·rcases ah with _|_
         ·have qd:=aa (HOq.o rfl)
          go_wp2
          go_roundg (gk-1)
          case measure=>have:=Ar.o;omega
          case rel=>exact⟨i+1,some q,by have:=Ar.o;omega,by go_num,rfl,qd,et,cU⟩
         ·have qd:=aa (HNq.o (HBh.o.2 rfl) rfl)
          go_wp2
          go_roundg (gk-1)
          case measure=>have:=Ar.o;omega
          case rel=>exact⟨i+1,some i,by have:=Ar.o;omega,by go_num,rfl,qd,et,cU⟩
   ·have acq:¬(i:Int)<(K.length:Int):=by omega
    obtain⟨q,hq,dH,gC⟩:=vF.done (b:=bs) (by have:=JS.o;rw [show i=K.length by omega]at this;exact this) HN.o HK.o hlt;subst dH;have oZ:=aa gC
    have QC:(q:Int)<(K.length:Int):=by omega
    obtain⟨g,cap,hv,eP,e0,e1,e2⟩:=kQ U0.o q hq
    injection hv with v1 v2 v3
    subst v1 v3;have km:=aa (show dz sf (o++ [K[q]])=dz sf o++ [.string ⟨K[q].1.toArray⟩,.string ⟨K[q].2.toArray⟩,.string ⟨(sf K[q]).toArray⟩] by rw [pX];rfl);clear v2 gC;generalize sf K[q]=sk at*;generalize K[q]=kq at*
    have b1:o.length+1<=maxLen:=by unfold maxLen;omega
    have b2:(o.length+1)*48<=140737488355328:=by omega
    show Code.wp _ _ _ _ _;have Tf:Ce (some q)=(q:Int):=rfl;rw [Tf];obtain⟨i0,nW,hz0,hz1,hz2⟩:=info_parts uW
    go_wp2_with (at_builtin;refine bC _ rfl _ _ 152 rfl w.heap.size 185 i0 (.agg #[.string ⟨#[]⟩,.string ⟨#[]⟩,.string ⟨#[]⟩]) 3 48 underlying152 nW hz0 hz1 hz2 rfl (by decide) (.slice oo o.length oc) o.length (dz sf o) rfl (HOr.o.alloc _) ⟨wr.heap.size,0,none⟩ 1 1 [.string ⟨kq.1.toArray⟩,.string ⟨kq.2.toArray⟩,.string ⟨sk.toArray⟩] rfl rfl (eU wr _ _ _ _) (zZ rfl rfl rfl) (by omega) b1 b2 (by simp;omega) ?_)
    intro g' cap' w6 hown aB aJ;have Cx:=aa hown;have fY:=aa (eM.o.trans (dF (aA aB) (λk e=>(aG HOr.o k e).1) hwr));clear hown aB aJ nW hz0 hz1 hz2;go_wp2
    go_roundg (go-1)
    case measure=>omega
    case rel=>exact⟨o++ [kq],by simp;omega,oZ,aa (by rw [km.o];simpa using Cx.o),fY⟩
 have eu:¬(o.length:Int)<(K.length:Int):=by omega
 have HE:=aa (HN.o.all HK.o (by omega));go_wp2;go_ret;exact⟨_,rfl,HB.o,by rw [<-HE.o];exact HO.o⟩
set_option maxHeartbeats 25600000 in
theorem FW{av:Value}{all:List (List UInt8×RM)}{md:Mod}(h:aa1 S w av lv iv fv all m E md):
  Calls prog 131 #[av,.agg #[lv,iv,fv,.bool false,.int .i64 m.ai]] w (P_ E md w):=by
 obtain⟨⟨g,cap,hlv,qU,hRR⟩,hIr,Uo⟩:=h.me.ok h.bad;obtain⟨axs,hax,acs⟩:=h.al;obtain⟨ao,ac,Uq⟩:=ak hax.1;obtain⟨io,ic,xH⟩:=ak hIr.1;obtain⟨fxs,Yj,acu⟩:=Uo;obtain⟨fo,fc,se⟩:=ak Yj.1;subst hlv Uq xH se;have oM:=aa h
 have Dz:m.aq.length<=700:=by have:=h.ok.il;rw [<-h.QT.nN]at this;omega
 have xD:m.aR.length<=700:=by have:=h.ok.fl;rw [h.QT.aR.1]at this;omega
 have U1:=aa (Kx.init h.bad h.al h.me h.hS);clear h hax acs Yj acu hIr hRR qU
 go_enter func131,ntmps131
 go_upto_region 1 with fail
 go_cut [6] (λv6 wx=>∃X:CX,v6=.pointer (some ⟨X.cb,0,none⟩)/\Hy (Kx w (.slice io m.aq.length ic) (.slice fo m.aR.length fc) all m X wx))
 case first=>
  go_wp2
  go_meet
  exact⟨_,rfl,U1⟩
 obtain⟨X,rfl,HK⟩:=hcut;clear U1;have e1:=HK.o.acp;have e2:=HK.o.xme;subst e1 e2;have U0:=aa (HK.o.rows HK.o.ck).1;have tI:=HK.o.lo;have HW:=aa (Xk oM.o.rel oM.o.QT oM.o.last.1 oM.o.nms oM.o.len Dz oM.o.SJ);obtain⟨z1,z2,zl⟩:=HK.o.cells (fX.refl _ _);have HLi:=aa (show([]:List (Nat×Nat)).length+(X.me.aq.map QU).length<=1000000000 by simp;omega)
 go_wp2_with fail
 refine(wR (l:=X.me.aq.map QU) HK.o.ck U0.o HLi.o).mono ?_;rintro e w2 ⟨rfl,hf2,hc2⟩;have oK:=aa hf2;have kW:=aa (show Ck X 0 (oH [] (X.me.aq.map QU)) (eQ X.all []) w2 by simpa using hc2);clear hf2 hc2 z1 z2 zl U0;obtain⟨T1,RP⟩:∃T,T=oH [] (X.me.aq.map QU):=⟨_,rfl⟩;rw [<-RP]at kW
 have adH:T1.length<=700:=by rw [RP];have:=vB [] (X.me.aq.map QU);rw [List.length_map]at this;omega
 have Bz:=aa RP;clear RP;go_wp2
 go_loopg [7] X.me.aq.length (λnn v7 wr=>∃j:Nat,nn+j=X.me.aq.length/\v7=.int .i64 j/\Hy (fX X.lo wc wr)/\Hy (Ck X 0 (T1++Dn X.all (X.me.aq.take j)) (eQ X.all (iu (X.me.aq.take j))) wr))
 case atStart=>exact⟨0,by omega,rfl,oK,aa (by simpa [Dn,iu]using kW.o)⟩
 obtain⟨j,hj,rfl,lO,nG⟩:=hrel;obtain⟨z1,z2,zl⟩:=HK.o.cells lO.o
 by_cases hlt:j<X.me.aq.length
 ·have eu:(j:Int)<(X.me.aq.length:Int):=by omega
  have SZ:(j:Int)+1<=9223372036854775807:=by omega
  obtain⟨gi,ci,hv,eP,hcs⟩:=sw (HK.o.rows nG.o).1 j (by rw [List.length_map];exact hlt);obtain⟨d0,d1⟩:=hcs j (by rw [List.length_map];exact hlt)
  injection hv with v1 v2 v3
  subst v1 v3;rw [List.getElem_map]at d0 d1;have oG:=aa (PY X.all X.me.aq j hlt);have Ir:=aa (Ab X.me.aq j hlt);have HLK:=aa (show(iu (X.me.aq.take j)).length<=1000000000 by have:=BX X.me.aq j;omega);have HLF:=aa (show(T1++Dn X.all (X.me.aq.take j)).length<=1000000000 by have:=JP X.all (X.me.aq.take j);rw [List.length_take]at this;rw [List.length_append];omega)
  have HD:=aa (λw' (hc:Ck X 0 (T1++Dn X.all (X.me.aq.take j)) (eQ X.all (lU (iu (X.me.aq.take j)) (X.me.aq[j].ag,[]))) w')=>(show w'.cell? ⟨gi,j*2+1,none⟩=some (.int .i64 X.me.aq[j].ai)/\gi<w'.heap.size by
   obtain⟨g2,c2,hv,hg2,hcs⟩:=sw (HK.o.rows hc).1 j (by rw [List.length_map];exact hlt)
   injection hv with v1 v2 v3
   injection v1 with v1
   injection v1 with v1
   subst v1;have:=(hcs j (by rw [List.length_map];exact hlt)).2;rw [List.getElem_map]at this
   exact⟨this,hg2⟩))
  clear hcs v2 z2;generalize X.me.aq[j]=x at*
  dsimp only [QU]at d0 d1
  clear d1
  go_wp2_with fail
  refine(Fy nG.o HW.o.SJ HLK.o x.ag []).mono ?_;rintro e w4 ⟨rfl,nR,j'⟩;have lQ:=aa (lO.o.trans nR);have ly:=aa j';obtain⟨d1,hg4⟩:=HD.o w4 j';obtain⟨z1,z2,zl⟩:=HK.o.cells lQ.o;clear nR j' d0 eP z2 HD lO nG
  by_cases hs:dA X.all x.ag []= []
  ·have HN2:=aa (show Dn X.all (X.me.aq.take (j+1))=Dn X.all (X.me.aq.take j)++ [(6,x.ai)] by rw [oG.o,if_pos hs])
   rw [hs];clear hs oG
   go_wp2_with fail
   refine(je ly.o 6 x.ai HLF.o).mono ?_;rintro e w5 ⟨rfl,ma,iO⟩;have nB:=aa (lQ.o.trans ma);have o_:=aa (show Ck X 0 (T1++Dn X.all (X.me.aq.take (j+1))) (eQ X.all (iu (X.me.aq.take (j+1)))) w5 by rw [HN2.o,Ir.o,<-List.append_assoc];exact iO);clear ma iO;go_wp2
   go_roundg (gk-1)
   case measure=>omega
   case rel=>exact⟨j+1,by omega,by go_num,nB,o_⟩
  ·have yi:(dA X.all x.ag []== [])=false:=by simpa using hs
   have o_:=aa (show Ck X 0 (T1++Dn X.all (X.me.aq.take (j+1))) (eQ X.all (iu (X.me.aq.take (j+1)))) w4 by rw [oG.o,Ir.o,if_neg hs,List.append_nil];exact ly.o);clear hs oG ly;generalize dA X.all x.ag []=sn at*;go_wp2
   go_roundg (gk-1)
   case measure=>omega
   case rel=>exact⟨j+1,by omega,by go_num,lQ,o_⟩
 have eu:¬(j:Int)<(X.me.aq.length:Int):=by omega
 have A7:=aa (show Ck X 0 (T1++Dn X.all X.me.aq) (eQ X.all (iu X.me.aq)) wr by have:=nG.o;rw [List.take_of_length_le (by omega)]at this;exact this);have TQ:=aa (show(iu X.me.aq).length<=700 by have:=BX X.me.aq X.me.aq.length;rw [List.take_length]at this;omega);obtain⟨F1,hF1⟩:∃F,F=T1++Dn X.all X.me.aq:=⟨_,rfl⟩
 have adI:F1.length<=1400:=by rw [hF1];have:=JP X.all X.me.aq;rw [List.length_append];omega
 rw [<-hF1]at A7;have vN:=aa hF1;have M_:=aa lO.o;obtain⟨wa,hwa⟩:∃y,y=wr:=⟨_,rfl⟩;subst hwa;clear nG lO hF1 hj hlt oK kW;go_wp2
 go_loopg [9,10] X.me.aR.length (λnn v9 v10 wr=>∃j:Nat,nn+j=X.me.aR.length/\v10=.int .i64 j/\Hy (wr.ownsRow wa.heap.size 260 2 v9 j (cD ((X.me.aR.take j).map MG)))/\Hy (Below wa.heap.size wa wr))
 case atStart=>exact⟨0,by omega,rfl,aa (World.ownsRow_nil _ _ _ _),aa (Below.refl _ _)⟩
 obtain⟨j,hj,rfl,HO,HB⟩:=hrel;have lO:=aa (M_.o.trans (fX.aW HB.o));have nG:=aa (A7.o.below HB.o);obtain⟨z1,z2,zl⟩:=HK.o.cells lO.o;obtain⟨no,nc,hnv⟩:=ak HO.o;subst hnv;have hwr:=HB.o.size
 by_cases hlt:j<X.me.aR.length
 ·have eu:(j:Int)<(X.me.aR.length:Int):=by omega
  have SZ:(j:Int)+1<=9223372036854775807:=by omega
  obtain⟨gf,cf,po,pn,pc,qo,qn,qc,hv,eP,hSf,d0,d1,_⟩:=(HK.o.rows nG.o).2.fn j hlt
  injection hv with v1 v2 v3
  subst v1 v3;have ou:=aa (show cD ((X.me.aR.take (j+1)).map MG)=cD ((X.me.aR.take j).map MG)++ [.string ⟨X.me.aR[j].ag.toArray⟩,.int .i64 X.me.aR[j].ai] by rw [List.take_succ_eq_append_getElem hlt,List.map_append,List.map_singleton,Qa]);clear v2 z1;generalize X.me.aR[j]=f at*;generalize cD ((X.me.aR.take j).map MG)=xs at*
  have b1:j+1<=maxLen:=by unfold maxLen;omega
  have b2:(j+1)*24<=140737488355328:=by omega
  obtain⟨i0,nW,hz0,hz1,hz2⟩:=info_parts ug
  go_wp2_with (at_builtin;refine bC _ rfl _ _ 246 rfl wa.heap.size 260 i0 (.agg #[.string ⟨#[]⟩,.int .i64 0]) 2 24 underlying246 nW hz0 hz1 hz2 rfl (by decide) (.slice no j nc) j xs rfl (HO.o.alloc _) ⟨wr.heap.size,0,none⟩ 1 1 [.string ⟨f.ag.toArray⟩,.int .i64 f.ai] rfl rfl (aap wr _ _ _) (Up rfl rfl) (by omega) b1 b2 (by simp;omega) ?_)
  intro g' cap' w6 hown aB aJ;have Cx:=aa hown;rw [<-ou.o]at Cx;have fY:=aa (HB.o.trans (dF (aA aB) (λk e=>(aG HO.o k e).1) hwr));clear hown aB aJ nW hz0 hz1 hz2;go_wp2
  go_roundg (gk-1)
  case measure=>omega
  case rel=>exact⟨j+1,by omega,by go_num,Cx,fY⟩
 have eu:¬(j:Int)<(X.me.aR.length:Int):=by omega
 have jU:j=X.me.aR.length:=by omega
 have D8:=aa (show wr.ownsRow wa.heap.size 260 2 (.slice no j nc) (X.me.aR.map MG).length (cD (X.me.aR.map MG)) by have:=HO.o;rw [jU,List.take_length]at this;rw [jU,List.length_map];exact this);have G0:=aa (show F1.length+(X.me.aR.map MG).length<=1000000000 by rw [List.length_map];omega);clear HO jU
 go_wp2_with fail
 refine(wR (l:=X.me.aR.map MG) nG.o D8.o G0.o).mono ?_;rintro e wb ⟨rfl,Jj,hcb⟩;have HFb:=aa (lO.o.trans Jj);have GJ:=aa hcb;obtain⟨F2,hF2⟩:∃F,F=F1++oH [] (X.me.aR.map MG):=⟨_,rfl⟩
 have acv:F2.length<=2100:=by rw [hF2];have:=vB [] (X.me.aR.map MG);rw [List.length_map]at this;rw [List.length_append];omega
 rw [<-hF2]at GJ;have oK:=aa hF2;clear Jj hcb hF2 hj hlt eu z1 z2 zl D8 G0 HB nG lO hwr;go_wp2
 go_loopg [11] X.me.aR.length (λnn v11 wr=>∃(j i:Nat) (D:List (Nat×Nat)) (A K:List (Nm×Nm)),nn+j=X.me.aR.length/\v11=.int .i64 j/\Hy (fX X.lo wc wr)/\Hy (Ck X i (F2++D) (eQ X.all K) wr)/\Hy (rK (qy md (fZ E md)) 700 (md.aR.take j) D A)/\Hy (∀x,x∈K↔x∈iu X.me.aq\/x∈A)/\Hy ((F2++D).length<=2100+j*3000/\K.length<=700+j*490000))
 case atStart=>exact⟨0,0,[],[],iu X.me.aq,by omega,rfl,HFb,aa (by simpa using GJ.o),aa (by simpa using rK.nil _ _),aa (λx=>by simp),aa ⟨by simpa using acv,by have:=TQ.o;omega⟩⟩
 obtain⟨j,i,D,A,K,hj,rfl,lO,nG,AO,nI,pZ⟩:=hrel;obtain⟨z1,z2,zl⟩:=HK.o.cells lO.o;obtain⟨go,hgo⟩:∃x,x=gk:=⟨_,rfl⟩;subst hgo;obtain⟨wd,hwd⟩:∃y,y=wr:=⟨_,rfl⟩;subst hwd;have Vq:=nG.o.lt
 by_cases hlt:j<X.me.aR.length
 ·have eu:(j:Int)<(X.me.aR.length:Int):=by omega
  have SZ:(j:Int)+1<=9223372036854775807:=by omega
  obtain⟨gf,cf,po,pn,pc,qo,qn,qc,hv,eP,hSf,d0,d1,d2,d3,d4,d5,d6,hp,hq⟩:=(HK.o.rows nG.o).2.fn j hlt
  injection hv with v1 v2 v3
  subst v1 v3
  have hlu:j<md.aR.length:=by rw [oM.o.QT.aR.1];exact hlt
  have has:=oM.o.QT.aR.2 j hlu hlt;rw [has.ay]at hp;rw [has.aef]at hq
  have hpn:pn=(md.aR[j].ay.map λx=>(x.ag,x.ai)).length:=by
   obtain⟨_,_,By⟩:=ak hp.1;injection By
  have hqn:qn=(md.aR[j].ay.map λx=>sT x.eF).length:=by
   obtain⟨_,_,hqv⟩:=ak hq.1;injection hqv
  rw [List.length_map]at hpn hqn;subst hpn hqn;have HAs:=aa has;have ou:=aa (List.take_succ_eq_append_getElem hlu);have iD:=aa (oM.o.ok.fs md.aR[j] (List.getElem_mem hlu));have HP:=aa hp.1;have HQ:=aa hq.1;clear hp hq has;generalize X.me.aR[j]=f at*;generalize md.aR[j]=u at*;have hpl:u.ay.length<=601:=iD.o.pl;have HLp:=aa (show(F2++D).length+(u.ay.map Tc).length<=1000000000 by have:=pZ.o.1;rw [List.length_map];omega);clear v2 z1
  go_wp2_with fail
  refine(wR (l:=u.ay.map Tc) (nG.o.alloc _) (HP.o.alloc _) HLp.o).mono ?_;rintro e w5 ⟨rfl,ma,iO⟩;have nB:=aa ((lO.o.alloc _).trans ma);have o_:=aa iO;have gT:=aa (ma.typed (aF wd (.cells #[.string ⟨f.ag.toArray⟩,.int .i64 f.ai,.bool f.gW,.slice po u.ay.length pc,.slice qo u.ay.length qc,.int .u8 f.aL,.int .i64 f.br] 262)) (by decide) (by decide) (by decide));have XH:=aa (yo (HP.o.alloc _) ma (by decide) (by decide) (by decide));have HQ5:=aa (yo (HQ.o.alloc _) ma (by decide) (by decide) (by decide));have b3:=ae gT.o 3;have b4:=ae gT.o 4;have b5:=ae gT.o 5;have b6:=ae gT.o 6;have bl:=af gT.o;simp at b3 b4 b5 b6;have Q9:wd.heap.size<w5.heap.size:=bl;clear ma iO d0 d1 d2 d3 d4 d5 d6 eP z2 zl;go_wp2
  go_loopg [13,14] u.ay.length (λnn v13 v14 wr=>v14=.int .i64 ((nn:Int)-1)/\nn<=u.ay.length/\Hy (wr.ownsRow w5.heap.size 323 3 v13 (u.ay.length-nn) (fj ((u.ay.map Xl).drop nn)))/\Hy (Below w5.heap.size w5 wr)/\Hy (nn=u.ay.length->v13=.slice none 0 0))
  case atStart=>exact⟨by go_num,Nat.le_refl _,aa (by rw [Nat.sub_self,List.drop_eq_nil_of_le (by simp)];exact World.ownsRow_nil _ _ _ _),aa (Below.refl _ _),aa (λ_=>rfl)⟩
  case round=>
   obtain⟨rfl,XX,HO,HB,Xs⟩:=hrel;have hwr:=HB.o.size;obtain⟨vo,vc,Yw⟩:=ak HO.o;obtain⟨vl,M4⟩:∃vl,vl=u.ay.length-gk:=⟨_,rfl⟩;rw [<-M4]at Yw HO;subst Yw;have Yy:=aa M4;clear M4;have b3':=(HB.o.cell Q9).trans b3;have b4':=(HB.o.cell Q9).trans b4;have b5':=(HB.o.cell Q9).trans b5;have b6':=(HB.o.cell Q9).trans b6
   have bl':wd.heap.size<wr.heap.size:=by omega
   by_cases Ys:0<gk
   ·obtain⟨q,rfl⟩:∃q,gk=q+1:=⟨gk-1,by omega⟩
    have Ll:q<u.ay.length:=by omega
    have e0:(((q+1:Nat):Int)-1)=(q:Int):=by omega
    rw [e0]
    have RH:¬(q:Int)<0:=by omega
    have Mz:(0:Int)<=(q:Int):=by omega
    have adJ:(q:Int)<(u.ay.length:Int):=by omega
    obtain⟨gp,cp,hv,hgp,hcs⟩:=sw (aM XH.o λk e=>HB.o.block k (aQ XH.o k e).2) q (by rw [List.length_map];exact Ll)
    injection hv with v1 v2 v3
    subst v1 v3;have p0:=(hcs q (by rw [List.length_map];exact Ll)).1;rw [List.getElem_map]at p0;clear v2 hcs;obtain⟨gk2,ck2,hv,hgk,k0⟩:=Qe (aM HQ5.o λk e=>HB.o.block k (aQ HQ5.o k e).2) q (by rw [List.length_map];exact Ll)
    injection hv with v1 v2 v3
    subst v1 v3;rw [List.getElem_map]at k0;have HVc:=aa (show fj ((u.ay.map Xl).drop q)=fj ((u.ay.map Xl).drop (q+1))++ [.string ⟨u.ay[q].ag.toArray⟩,.int .u8 (sT u.ay[q].eF),.int .i64 0] by rw [List.drop_eq_getElem_cons (by rw [List.length_map];exact Ll),FT,List.getElem_map,Uz (iD.o.pt _ (List.getElem_mem Ll))]);have Iz:=aa (show vl+1=u.ay.length-q by have:=Yy.o;omega);clear v2;generalize u.ay[q]=y at*;generalize fj ((u.ay.map Xl).drop (q+1))=xs at*
    have b1:vl+1<=maxLen:=by have:=Iz.o;unfold maxLen;omega
    have b2:(vl+1)*32<=140737488355328:=by have:=Iz.o;omega
    have kp:=aa (show ∀v∈ [Value.string ⟨y.ag.toArray⟩,Value.int .u8 (sT y.eF),Value.int .i64 0],v.oneCell'=true from zZ rfl rfl rfl);have acw:=aa (show w5.heap.size<=(wr.drew.alloc (.cells #[.string ⟨y.ag.toArray⟩,.int .u8 (sT y.eF),.int .i64 0] 323)).heap.size by simp;omega);clear Xs b5' b6' e0 Ys
    go_wp2_with fail
    obtain⟨i0,hi,hz0,hz1,hz2⟩:=info_parts BU
    go_region_law (refine cv rfl (.tmp 95) (.tmp 108) 321 rfl w5.heap.size 323 i0 (.agg #[.string ⟨#[]⟩,.int .u8 0,.int .i64 0]) 3 32 underlying321 hi hz0 hz1 hz2 rfl (by decide) (.slice vo vl vc) vl xs ?_ ?_ ⟨wr.heap.size,0,none⟩ 1 1 [.string ⟨y.ag.toArray⟩,.int .u8 (sT y.eF),.int .i64 0] ?_ rfl ?_ kp.o b1 b2 ?_ ?_;(simp [Act.eval,Act.put]);(exact(World.ownsRow.drew HO.o).alloc _);(simp [Act.eval,Act.put]);(exact(eU wr.drew _ _ _ _));(exact acw.o);intro v' w7 hown aB aJ;obtain⟨g7,c7,cu7,rfl,_⟩:=cN hown (by omega);have HO7:=aa hown;have uh:=aa (dS (aA aB));clear hown aB aJ)
    all_goals
     have HO8:=aa (show w7.ownsRow w5.heap.size 323 3 (.slice (some ⟨g7,0,none⟩) (vl+1) c7) (u.ay.length-q) (fj ((u.ay.map Xl).drop q)) by rw [HVc.o,<-Iz.o];exact HO7.o);have MC:=aa (HB.o.trans (dF uh.o (λk e=>(aG HO.o k e).1) hwr));go_wp2
     go_roundg q
     case measure=>omega
     case rel=>exact⟨by go_num,by omega,HO8,MC,aa (λe=>by omega)⟩
   ·have RH:gk=0:=by omega
    have hng:¬(0:Int)<=(gk:Int)-1:=by omega
    have adK:(gk:Int)-1<0:=by omega
    have HFx:=aa (nB.o.trans (fX.aW HB.o));have RR:=aa (o_.o.below HB.o)
    have HVs:=aa (show Vs wr (.slice vo vl vc) (u.ay.map Xl)from⟨by
     have h1:=HO.o;have h2:=Yy.o;rw [RH,Nat.sub_zero]at h2;rw [RH,List.drop_zero]at h1;rw [List.length_map,<-h2]
     exact cI h1 (Nat.zero_le _),λx hx=>by
      obtain⟨y,hy,rfl⟩:=List.mem_map.1 hx;have:=iD.o.pt y hy;show y.eF<=2
      omega,λe=>Xs.o (by have:u.ay.length=0:=(by have:=congrArg List.length e;simpa using this);omega)⟩)
    have kY:=aa (RR.o.to f.br);obtain⟨c6,cl,cfz⟩:=RR.o.SM
    have W9:¬wd.heap.size=X.cb:=by omega
    have NC:¬X.cb=wd.heap.size:=by omega
    obtain⟨pl,hb1,hb2⟩:=HAs.o.br;have VU:=HAs.o.lt;have Yv:=oM.o.len
    have HI:=aa (show zT X X.me.ws.length (u.ay.map Xl) (.slice vo vl vc) ⟨f.br,false,pl⟩ ((F2++D)++oH [] (u.ay.map Tc)) K ((rd X.me.ws X.me.ws.length).1 ⟨f.br,false,pl⟩) (wr.setCell ⟨X.cb,6,none⟩ (.int .i64 f.br))from⟨kY.o.2,HVs.o.fr kY.o.1,by rw [List.length_map];show _<=700+f.br;omega,rfl,hb2,VU,by show X.me.ws.length-1-f.br<_;omega,by
     have:=pZ.o.1;have h2:=vB [] (u.ay.map Tc);rw [List.length_map]at h2;rw [List.length_append];show _+3*(X.me.ws.length-f.br)<=_
     omega,by
     have:=pZ.o.2;show _+700*(X.me.ws.length-f.br)<=_
     omega⟩)
    have WW:=aa (show(f.aL:Int)=rG u.result by rw [HAs.o.aL,Uz iD.o.rt]);have acx:=aa (HFx.o.trans kY.o.1);have HBe:=aa hb1;have acy:=aa (show(oH [] (u.ay.map Tc)).length<=601 by have h2:=vB [] (u.ay.map Tc);rw [List.length_map]at h2;omega);have HRt:=aa (show u.result<=2 by have:=iD.o.rt;omega);clear hb1 hb2 b3' b4' XX Ys Xs HO Yv
    go_wp2_with fail
    refine(dE (PQ HW.o oM.o.last X.me.ws.length).1 u.result HRt.o (f.aL:Int) WW.o HI.o).mono ?_;rintro e w8 ⟨t,d,a,K',rfl,Ut,Uu,xd,acz,hl8,D6,mF,ac0⟩;have HF8:=aa (acx.o.trans Ut)
    have HC8:=aa (show Ck X ((rd X.me.ws X.me.ws.length).1 ⟨f.br,false,pl⟩).2.i (F2++(D++(oH [] (u.ay.map Tc)++(d++dY t u.result u.br.ai)))) (eQ X.all K') w8 by
     rw [HBe.o]
     simpa only [List.append_assoc]using Uu)
    have ac1:=aa (show rK (qy md (fZ E md)) 700 (md.aR.take (j+1)) (D++(oH [] (u.ay.map Tc)++(d++dY t u.result u.br.ai))) (A++a) by
     rw [ou.o]
     exact AO.o.snoc (by rw [HBe.o];exact xd) (by have:=oM.o.len;omega))
    have ac2:=aa (show ∀x,x∈K'↔x∈iu X.me.aq\/x∈A++a from λx=>by rw [D6,nI.o,List.mem_append,or_assoc])
    have ac3:=aa (show(F2++(D++(oH [] (u.ay.map Tc)++(d++dY t u.result u.br.ai)))).length<=2100+(j+1)*3000/\K'.length<=700+(j+1)*490000 by
     have h1:=pZ.o;have h2:=acy.o;have h3:=bM t u.result u.br.ai;have h4:=oM.o.len;simp only [List.length_append]at h1⊢
     omega)
    clear Ut Uu xd D6 mF ac0 acz hl8;go_wp2
    go_roundg (go-1)
    case measure=>omega
    case rel=>exact⟨j+1,_,_,_,K',by omega,by go_num,HF8,HC8,ac1,ac2,ac3⟩
 have eu:¬(j:Int)<(X.me.aR.length:Int):=by omega
 have YY:=aa (show rK (qy md (fZ E md)) 700 md.aR D A by have:=AO.o;rw [List.take_of_length_le (by rw [oM.o.QT.aR.1];omega)]at this;exact this);have JS:=aa (Mb oM.o.rel oM.o.QT YY.o);rw [<-Bz.o,<-vN.o,<-oK.o]at JS;obtain⟨F3,hF3⟩:∃F,F=F2++D:=⟨_,rfl⟩
 have adL:F3.length<=3000000:=by rw [hF3];have:=pZ.o.1;omega
 rw [<-hF3]at JS nG;have MB:=aa (show K.Nodup by have:=nG.o.nd;rw [Fx]at this;exact this);have Iz:=aa (show K.length<=1000000000 by have:=pZ.o.2;omega);clear hF3 hj hlt z1 AO YY pZ;go_wp2
 go_loopg [16] F3.length (λnn v16 wr=>∃(k c p:Nat),nn+k=F3.length/\v16=.int .i64 k/\Hy (wr.heap[wd.heap.size]?=some (.cells #[.int .i64 c,.int .i64 p] 253 (0,0)))/\Hy (yn (F3.take k) ⟨[],c,p,[]⟩)/\Hy (Below wd.heap.size wd wr))
 case atStart=>exact⟨0,0,0,by omega,rfl,aa (aF _ _),aa (Or.inl ⟨rfl,rfl⟩),aa ((Below.refl _ _).alloc (Nat.le_refl _) _)⟩
 obtain⟨k,c,p,hk,rfl,J5,qD,HB⟩:=hrel;have RR:=aa (nG.o.below HB.o);obtain⟨fo',fc',WN,WO,hb',MM,EL⟩:=RR.o.mem;have c7:=ae hb' 7;have c8:=ae hb' 8;have cl:=af hb';have H1:=aa MM;have H2:=aa EL;have q0:=ae J5.o 0;have q1:=ae J5.o 1;have qf:=aj J5.o;have ql:=af J5.o;simp at c7 c8 q0 q1;clear hb' MM EL
 by_cases CN:k<F3.length
 ·have AQ:(k:Int)<(F3.length:Int):=by omega
  have fO:(k:Int)+1<=9223372036854775807:=by omega
  obtain⟨gq,cq,hv,hgq,x0,x1⟩:=Qc H1.o k CN
  injection hv with v1 v2 v3
  subst v1 v3;have ou:=aa (List.take_succ_eq_append_getElem CN);have CY:=aa (RR.o.xu _ (List.getElem_mem CN));generalize F3[k]=x at*;have E5:=aa (show yn (F3.take (k+1)) ((⟨[],c,p,[]⟩:KS).tell x.1 x.2) by rw [ou.o];exact qD.o.tell x.1 x.2 (by have:=CY.o;unfold OkC at this;omega));have pz:=aa (λn=>Qd (n:=n) (t:=.cells #[.int .i64 x.1,.int .i64 x.2] 253) J5.o HB.o (Nat.le_refl _) (.int .i64 x.1) (.int .i64 x.2));have JT:=aa (λn=>BZ (n:=n) (t:=.cells #[.int .i64 x.1,.int .i64 x.2] 253) J5.o HB.o HB.o.size);obtain⟨tl,ye⟩:∃tl,tl=(⟨[],c,p,[]⟩:KS).tells x.1 x.2:=⟨_,rfl⟩;have VA:=aa ye;have uq:=aa (show tl=true->yn (F3.take (k+1)) ⟨[],x.1,x.2,[]⟩from λe=>by have:=E5.o;unfold KS.tell at this;rw [<-ye,e]at this;exact this);have Mg:=aa (show tl=false->yn (F3.take (k+1)) ⟨[],c,p,[]⟩from λe=>by have:=E5.o;unfold KS.tell at this;rw [<-ye,e]at this;exact this);have HNc:=aa fO
  have adM:¬wr.heap.size=wd.heap.size:=by omega
  have adN:¬wd.heap.size=wr.heap.size:=by omega
  clear ye v2;obtain⟨xc,xp⟩:=x
  dsimp only at*
  by_cases c0:c=0
  ·subst c0
   have HE:=aa (uq.o (by rw [VA.o];simp [KS.tells]))
   go_wp2_with fail
   go_quiet ((go_at_call 190;exact Calls.quiet_of_same (pG _ _)))
   go_wp2
   go_roundg (gk-1)
   case measure=>omega
   case rel=>
    exact⟨k+1,xc,xp,by omega,by go_num,aa (pz.o _).1,HE,aa (pz.o _).2⟩
  ·have e0:((c:Int)==0)=false:=by simp;omega
   by_cases p1:xp<p
   ·have p1':(xp:Int)<(p:Int):=by omega
    have HE:=aa (uq.o (by rw [VA.o];simp [KS.tells,p1]));clear c0 p1
    go_wp2_with fail
    go_quiet ((go_at_call 190;exact Calls.quiet_of_same (pG _ _)))
    go_wp2
    go_roundg (gk-1)
    case measure=>omega
    case rel=>
     exact⟨k+1,xc,xp,by omega,by go_num,aa (pz.o _).1,HE,aa (pz.o _).2⟩
   ·have p1':decide ((xp:Int)<(p:Int))=false:=by simp;omega
    by_cases p2:xp=p
    ·subst p2
     by_cases r1:ew xc<ew c
     ·have r1':(ew xc:Int)<(ew c:Int):=by omega
      have HE:=aa (uq.o (by rw [VA.o];simp [KS.tells,r1]));clear c0 p1 r1
      go_wp2_with fail
      go_quiet ((go_at_call 190;exact Calls.quiet_of_same (pG _ _)))
      go_wp2
      go_roundg (gk-1)
      case measure=>omega
      case rel=>
       exact⟨k+1,xc,xp,by omega,by go_num,aa (pz.o _).1,HE,aa (pz.o _).2⟩
     ·have r1':decide ((ew xc:Int)<(ew c:Int))=false:=by simp;omega
      have HE:=aa (Mg.o (by rw [VA.o];simp [KS.tells,r1,c0]))
      have IA:decide (ew xc<ew c)=false:=by simp;omega
      have p2':((xp:Int)==(xp:Int))=true:=by simp
      go_wp2_with fail
      go_quiet ((go_at_call 190;exact Calls.quiet_of_same (pG _ _)))
      go_wp2
      go_roundg (gk-1)
      case measure=>omega
      case rel=>
       exact⟨k+1,c,xp,by omega,by go_num,aa (JT.o _).1,HE,aa (JT.o _).2⟩
    ·have p2':((xp:Int)==(p:Int))=false:=by simp;omega
     have HE:=aa (Mg.o (by rw [VA.o];simp [KS.tells,p1,p2,c0]))
     go_wp2_with fail
     go_quiet ((go_at_call 190;exact Calls.quiet_of_same (pG _ _)))
     go_wp2
     go_roundg (gk-1)
     case measure=>omega
     case rel=>
      exact⟨k+1,c,p,by omega,by go_num,aa (JT.o _).1,HE,aa (JT.o _).2⟩
 have AQ:¬(k:Int)<(F3.length:Int):=by omega
 have HUq:=aa (qD.o.unique JS.o.1 (λx=>by rw [List.take_of_length_le (by omega)]) (λx hx=>RR.o.xu x (List.mem_of_mem_take hx)));have pP:=aa (HK.o.res (lO.o.trans (fX.aW HB.o)));have r0:=ae pP.o 0;have r1:=ae pP.o 1;have rf:=aj pP.o;have rl:=af pP.o;have Yt:=aa (show wr.ownsRow X.lo 185 3 (.slice WN K.length WO) K.length (dz (Gz X.all) K) by have:=H2.o;rw [wP,List.length_map]at this;exact this);have Oi:=aa (Qf oM.o.rel oM.o.ok JS.o.2 (K:=K) (by have:=nI.o;rw [oM.o.QT.nN]at this;exact this));have R4:=aa (show Below w.heap.size w wr from(HK.o.dB.trans ⟨lO.o.os,lO.o.tape,lO.o.output,lO.o.size,λk hk=>lO.o.block k (by have:=HK.o.dB.size;omega) (Or.inl (by rw [tI];omega))⟩).trans (HB.o.mono (by have:=lO.o.size;have:=HK.o.dB.size;omega)));have Gx:=aa (λwz (hz:wz.ownsRow X.lo 185 3 (.slice WN K.length WO) K.length (dz (Gz X.all) K))=>I8 (Gz X.all) K MB.o Iz.o X.lo _ wz hz)
 have adO:¬wd.heap.size=w.heap.size+1:=by have:=nG.o.Gy;have:=nG.o.lt;omega
 have adP:¬w.heap.size+1=wd.heap.size:=by omega
 have adQ:¬X.cb=w.heap.size+1:=by have:=nG.o.Gy;omega
 have ZM:¬w.heap.size+1=X.cb:=by omega
 simp at r0 r1
 have Xt:=aa (λ(ov:Value) (w5:World) (cZ:Below wr.heap.size wr w5) (M8:w5.ownsRow wr.heap.size 185 3 ov (bT (eK K)).length (dz (Gz X.all) (bT (eK K))))=>(show P_ E md w (.returned (.tuple #[.agg #[.int .i64 c,.int .i64 p],ov])) ((w5.setCell ⟨w.heap.size+1,0,none⟩ (.int .i64 c)).setCell ⟨w.heap.size+1,1,none⟩ (.int .i64 p))from
  ⟨c,p,ov,rfl,((R4.o.trans (cZ.mono R4.o.size)).setCell (by show _<=w.heap.size+1;omega) _).setCell (by show _<=w.heap.size+1;omega) _,HUq.o.1,HUq.o.2,λnm=>by
   have hne:ov.ownBlock≠some (w.heap.size+1):=λe=>by have:=(aQ M8 _ e).1;omega
   rw [<-(Oi.o nm).1,<-(Oi.o nm).2]
   exact cI (a8 (a8 M8 hne 0 _) hne 1 _) R4.o.size⟩))
 have ac4:=aa (Gx.o wr.drew (World.ownsRow.drew Yt.o))
 have lM:=aa (λ(w5:World) (cZ:Below wr.heap.size wr w5)=>(show w5.cell? ⟨w.heap.size+1,0,none⟩=some (.int .i64 0)/\w5.cell? ⟨w.heap.size+1,1,none⟩=some (.int .i64 0)/\(∀o,w5.frozen? ⟨w.heap.size+1,o,none⟩=false)/\w.heap.size+1<w5.heap.size/\w5.cell? ⟨wd.heap.size,0,none⟩=some (.int .i64 c)/\w5.cell? ⟨wd.heap.size,1,none⟩=some (.int .i64 p)/\wd.heap.size<w5.heap.size/\w5.cell? ⟨X.cb,8,none⟩=some (.slice WN K.length WO)from
  ⟨(cZ.cell rl).trans r0,(cZ.cell rl).trans r1,λo=>(cZ.frozen (p:=⟨w.heap.size+1,o,none⟩) rl).trans (rf o),by have:=cZ.size;omega,(cZ.cell ql).trans q0,(cZ.cell ql).trans q1,by have:=cZ.size;omega,(cZ.cell cl).trans c8⟩))
 clear Gx HUq Oi pP JS nI MB H1 H2 Yt qD J5 RR nG lO
 go_wp2_with fail
 go_region_held3 (λw'=>w'.cell? ⟨wd.heap.size,0,none⟩=some (.int .i64 c)/\w'.cell? ⟨wd.heap.size,1,none⟩=some (.int .i64 p)/\w'.cell? ⟨X.cb,8,none⟩=some (.slice WN K.length WO)) (go_keep)
  (first
   |(go_at_call 191;refine ac4.o.mono ?_;rintro e w5 ⟨ov,rfl,cZ,M8⟩;obtain⟨oo,oc,zz⟩:=ak M8;subst zz;have kz:Below wr.heap.size wr w5:=((Below.refl _ _).drew).trans cZ;obtain⟨k0,k1,kf,kl,k2,k3,k4,k5⟩:=lM.o w5 kz;have Y9:=aa (Xt.o _ w5 kz M8);clear cZ M8 kz))
 all_goals
  (try go_wp2_with fail)
  refine bodyPost_ret (v:=.tuple #[.agg #[.int .i64 c,.int .i64 p],.slice oo (bT (eK K)).length oc]) (by simp [results,results131,go_sem,k0,k1,kl]) rfl ?_;exact Y9.o
end Go.Proofs.YtpmmjkiclngpmaaGreatDoor
