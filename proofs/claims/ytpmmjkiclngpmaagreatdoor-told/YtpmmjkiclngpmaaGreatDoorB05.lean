/- YtpmmjkiclngpmaaGreatDoorB05 -/
import Derived.Test.YtpmmjkiclngpmaaGreatDoorB01
import Derived.BigQuiet
import Derived.Deep.RegionLaw
set_option maxRecDepth 100000
set_option linter.unusedSimpArgs false
set_option linter.unusedVariables false
set_option maxHeartbeats 12800000
namespace Go.Proofs.YtpmmjkiclngpmaaGreatDoor
open Tryz
open Go.RowKit
variable{w:World}{Q:Exit->Act->World->Prop}{a:Act}{o:Oper}{rest:List Oper}{ops:Array Oper}{P:Program}{K:Act->World->Prop}
theorem cI{base base':Nat}{e:TypeId}{size:Nat}{v:Value}{n:Nat}{xs:List Value}(h:w.ownsRow base e size v n xs)(hb:base'<=base):w.ownsRow base' e size v n xs:=by
 refine⟨h.1,?_⟩
 rcases h.2 with h|⟨g,cap,aU,a,b,c⟩
 ·exact Or.inl h
 exact Or.inr ⟨g,cap,aU,a,Nat.le_trans hb b,c⟩
theorem yA{w':World}(h:w.grownBy w' none)(r:Option Nat):w.grownBy w' r:=⟨h.os,h.tape,h.output,h.size,λk hk hne=>h.block k hk (by simp)⟩
theorem Nf(w:World)(hg:o.guard=none)(s x:Operand)(t:TypeId)(hop:o.op=Op.call {callee:=Callee.builtin Builtin.append,args:=#[s,x],argTypes:=#[t,t]})(base:Nat)(e:TypeId)(i:TypeInfo)(z:Value)(size bytes:Nat)(h1:P.underlying t=some (.slice e))(h2:P.info? e=some i)(h3:i.zero=some z)(h4:i.size=size)(h5:i.bytes=bytes)(h6:z.cells.size=size)(h7:0<size)(g n cap:Nat)(xs:List Value)(hs:a.eval s=.slice (some ⟨g,0,none⟩) n cap)(hown:w.ownsRow base e size (.slice (some ⟨g,0,none⟩) n cap) n xs)(ad:Addr)(m c:Nat)(news:List Value)(hx:a.eval x=.slice (some ad) m c)(hn:news.length=m*size)(hc:∀j u,news[j]?=some u->w.cell? (ad.add j)=some u)(h1c:∀u∈news,u.oneCell'=true)(b1:n+m<=maxLen)(b2:(n+m)*bytes<=140737488355328)(hbase:base<=w.heap.size)(hK:∀g' cap' w',w'.ownsRow base e size (.slice (some ⟨g',0,none⟩) (n+m) cap') (n+m) (xs++news)->w.grownBy w' (some g)->(g'=g\/w.heap.size<=g')->wpList P ops Q rest (a.put o.dst (.slice (some ⟨g',0,none⟩) (n+m) cap')) w'):
  wpList P ops Q (o::rest) a w:=by
 by_cases hroom:n+m<=cap
 ·exact wpList_append_fits w hg s x t hop base e i size h1 h2 h4 g n cap xs hs hown ad m c news hx hn hc h1c hroom λw' r1 r2=>hK g cap w' r1 r2 (Or.inl rfl)
 rcases hown.2 with⟨h,_⟩|⟨g0,lH,aU,hv,hb0,aed,vJ,hcm,hcs,iX⟩
 ·simp at h
 simp only [Value.slice.injEq,Option.some.injEq,Addr.mk.injEq]at hv;obtain⟨⟨rfl,_⟩,_,rfl⟩:=hv;refine wpList_append_grows w hg s x t hop e i z size bytes h1 h2 h3 h4 h5 h6 h7 (some ⟨g,0,none⟩) n cap xs hs (λh=>by cases h) hown.1 ?_ ad m c news hx hn hc h1c (by omega) b1 b2 ?_
 ·intro b hb j u hj
  simp only [Option.some.injEq]at hb;subst hb
  have xW:j<n*size:=by rw [<-hown.1];exact(List.getElem?_eq_some_iff.1 hj).1
  have e1:(Addr.add ⟨g,0,none⟩ j)=⟨g,j,none⟩:=by unfold Addr.add;split<;>simp_all
  rw [e1,ae aed,<-hj,<-iX,List.getElem?_take,if_pos xW];simp
 intro v' w' r1 r2
 rcases r1.2 with⟨hv',h0⟩|⟨g',cap',cur',hv',hb',MR⟩
 ·have:(xs++news).length=0:=by rw [r1.1,h0];simp
  have hlen:0<n+m:=by omega
  omega
 subst hv';exact hK g' cap' w' (cI r1 hbase) (yA r2 _) (Or.inr hb')
theorem bC(w:World)(hg:o.guard=none)(s x:Operand)(t:TypeId)(hop:o.op=Op.call {callee:=Callee.builtin Builtin.append,args:=#[s,x],argTypes:=#[t,t]})(base:Nat)(e:TypeId)(i:TypeInfo)(z:Value)(size bytes:Nat)(h1:P.underlying t=some (.slice e))(h2:P.info? e=some i)(h3:i.zero=some z)(h4:i.size=size)(h5:i.bytes=bytes)(h6:z.cells.size=size)(h7:0<size)(v:Value)(n:Nat)(xs:List Value)(hs:a.eval s=v)(hown:w.ownsRow base e size v n xs)(ad:Addr)(m c:Nat)(news:List Value)(hx:a.eval x=.slice (some ad) m c)(hn:news.length=m*size)(hc:∀j u,news[j]?=some u->w.cell? (ad.add j)=some u)(h1c:∀u∈news,u.oneCell'=true)(hm:0<m)(b1:n+m<=maxLen)(b2:(n+m)*bytes<=140737488355328)(hbase:base<=w.heap.size)(hK:∀g' cap' w',w'.ownsRow base e size (.slice (some ⟨g',0,none⟩) (n+m) cap') (n+m) (xs++news)->w.grownBy w' v.ownBlock->(v.ownBlock=some g'\/w.heap.size<=g')->wpList P ops Q rest (a.put o.dst (.slice (some ⟨g',0,none⟩) (n+m) cap')) w'):
  wpList P ops Q (o::rest) a w:=by
 rcases hown.2 with⟨rfl,rfl⟩|⟨g0,lH,aU,rfl,hb0,aed,vJ,hcm,hcs,iX⟩
 ·have hx0:xs= []:=List.eq_nil_of_length_eq_zero (by have:=hown.1;simpa using this)
  subst hx0;refine wpList_append_grows w hg s x t hop e i z size bytes h1 h2 h3 h4 h5 h6 h7 none 0 0 [] hs (λ_=>⟨rfl,rfl⟩) (by simp) (λb hb=>by cases hb) ad m c news hx hn hc h1c (by omega) b1 b2 ?_;intro v' w' r1 r2
  rcases r1.2 with⟨hv',h0⟩|⟨g',cap',cur',hv',hb',MR⟩
  ·omega
  ·subst hv'
   exact hK g' cap' w' (cI r1 hbase) (yA r2 _) (Or.inr hb')
 exact Nf w hg s x t hop base e i z size bytes h1 h2 h3 h4 h5 h6 h7 g0 n lH xs hs hown ad m c news hx hn hc h1c b1 b2 hbase
  (λg' cap' w' r1 r2 r3=>hK g' cap' w' r1 r2 (r3.elim (λe=>Or.inl (by rw [e];rfl)) Or.inr))
theorem C1(v:Int)(h0: -9223372036854775808<=v)(h1:v<=9223372036854775807):IntKind.i64.wrap v=v:=by
 have hb:(2:Int)^IntKind.i64.bits=18446744073709551616:=by decide
 have hb1:(2:Int)^(IntKind.i64.bits-1)=9223372036854775808:=by decide
 have hsg:IntKind.i64.signed=true:=by decide
 simp only [IntKind.wrap,hb,hb1,hsg,Bool.true_and,decide_eq_true_eq,ge_iff_le]
 split<;>omega
theorem sY(w:World)(base:Nat)(t ty e:TypeId)(i:TypeInfo)(z:Value)(size bytes:Nat)(ht:P.underlying t=some (.slice e))(hi:P.info? e=some i)(hz:i.zero=some z)(hsize:i.size=size)(hby:i.bytes=bytes)(hzs:z.cells.size=size)(hsz:0<size)(v:Value)(n:Nat)(xs:List Value)(hown:w.ownsRow base e size v n xs)(a:Addr)(m c:Nat)(news:List Value)(hl:news.length=m*size)(hnews:∀j u,news[j]?=some u->w.cell? (a.add j)=some u)(h1:∀u∈news,u.oneCell'=true)(h63:n+m<=maxLen)(hbytes:(n+m)*bytes<=140737488355328)(hbase:base<=w.heap.size):
  ∃v' w',(Builtin.append_ #[t,t] ty #[v,.slice (some a) m c]).run P w=.ok v' w'/\w'.ownsRow base e size v' (n+m) (xs++news)/\w.grownBy w' v.ownBlock/\
   (∀k,v'.ownBlock=some k->v.ownBlock=some k\/w.heap.size<=k):=by
 rcases hown.2 with⟨rfl,rfl⟩|⟨g,cap,aU,rfl,hbg,hg,vJ,hcm,hcs,acQ⟩
 ·have hx:xs= []:=List.eq_nil_of_length_eq_zero (by simpa using hown.1)
  subst hx;obtain⟨v',w',r,r1,r2,r3⟩:=run_append_own (P:=P) w w.heap.size t ty e i z size bytes ht hi hz hsize hby hzs hsz (.slice none 0 0) 0 [] (World.ownsRow_nil w _ e size) a m c news hl hnews h1 h63 hbytes (Nat.le_refl _);exact⟨v',w',r,cI r1 hbase,r2,λk hk=>Or.inr ((r1.lt k hk).1)⟩
 by_cases hroom:n+m<=cap
 ·obtain⟨w',hrun,r1,r2⟩:=run_append_fits (P:=P) w base t ty e i size ht hi hsize g n cap xs hown a m c news hl hnews h1 hroom
  exact⟨_,w',hrun,r1,r2,λk hk=>Or.inl hk⟩
 have holds:∀j u,xs[j]?=some u->w.cell? ((⟨g,0,none⟩:Addr).add j)=some u:=hown.cells (g:=g) rfl;obtain⟨v',w',hrun,r1,r2⟩:=run_append_arg_grows (P:=P) w t ty e i z size bytes ht hi hz hsize hby hzs hsz ⟨g,0,none⟩ n cap xs hown.1 holds a m c news hl hnews (by omega) h63 hbytes;exact⟨v',w',hrun,cI r1 hbase,yA r2 _,λk hk=>Or.inr ((r1.lt k hk).1)⟩
theorem cv{ops:Array Oper}{Q:Exit->Act->World->Prop}{E:Prop}(hg:o.guard=none)(s x:Operand)(t:TypeId)(hop:o.op=Op.call {callee:=Callee.builtin Builtin.append,args:=#[s,x],argTypes:=#[t,t]})(base:Nat)(e:TypeId)(i:TypeInfo)(z:Value)(size bytes:Nat)(h1:P.underlying t=some (.slice e))(h2:P.info? e=some i)(h3:i.zero=some z)(h4:i.size=size)(h5:i.bytes=bytes)(h6:z.cells.size=size)(h7:0<size)(v:Value)(n:Nat)(xs:List Value)(hs:a.eval s=v)(hown:w.ownsRow base e size v n xs)(ad:Addr)(m c:Nat)(news:List Value)(hx:a.eval x=.slice (some ad) m c)(hn:news.length=m*size)(hc:∀j u,news[j]?=some u->w.cell? (ad.add j)=some u)(h1c:∀u∈news,u.oneCell'=true)(b1:n+m<=maxLen)(b2:(n+m)*bytes<=140737488355328)(hbase:base<=w.heap.size)(hK:∀v' w',w'.ownsRow base e size v' (n+m) (xs++news)->w.grownBy w' v.ownBlock->(∀k,v'.ownBlock=some k->v.ownBlock=some k\/w.heap.size<=k)->K (a.put o.dst v') w'):
  if Region.wanted o (yielded ops a.tmps)=true then Oper.wp P o a w K Q else E:=by
 have hw:Region.wanted o (yielded ops a.tmps)=true:=by simp [Region.wanted,hg]
 rw [if_pos hw];obtain⟨v',w',hrun,r1,r2,r3⟩:=sY (P:=P) w base t o.type e i z size bytes h1 h2 h3 h4 h5 h6 h7 v n xs hown ad m c news hn hc h1c b1 b2 hbase;unfold Oper.wp;simp [execOp,hop,resolve,invoke,builtin,hs,hx,hrun,Result.andThen];exact hK v' w' r1 r2 r3
theorem fp{ops:Array Oper}{w:World}{Q:Exit->Act->World->Prop}{E:Prop}(hg:o.guard=none)(f:Nat)(args:Array Operand)(ts:Array TypeId)(hop:o.op=Op.call {callee:=Callee.value (Operand.func f),args:=args,argTypes:=ts})(he:∀xs w,(callFunc f xs).run P w=.ok (.enter f xs) w)(vs:Array Value)(hvs:args.map a.eval=vs){R:Ending->World->Prop}(hc:Calls P f vs w R)(hK:∀e w',R e w'->∃v,e=.returned v/\K (a.put o.dst v) w'):
  if Region.wanted o (yielded ops a.tmps)=true then Oper.wp P o a w K Q else E:=by
 have hw:Region.wanted o (yielded ops a.tmps)=true:=by simp [Region.wanted,hg]
 rw [if_pos hw];subst hvs;unfold Oper.wp
 have h1:(execOp a.eval o).run P w=.ok (.enter f (args.map a.eval)) w:=by
  simp [execOp,hop,resolve,invoke,Act.eval,he,Result.andThen,Deferred.ofValue]
 rw [h1,Oper.upon_enter];refine hc.mono ?_;intro e w' hr;obtain⟨v,rfl,hk⟩:=hK e w' hr;exact hk
end Go.Proofs.YtpmmjkiclngpmaaGreatDoor
