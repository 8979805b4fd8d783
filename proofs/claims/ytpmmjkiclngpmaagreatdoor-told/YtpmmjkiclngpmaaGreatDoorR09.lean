/- YtpmmjkiclngpmaaGreatDoorR09 -/
import Derived.ChangeSame
import Derived.ProofKit
import Derived.OpenShut
import Derived.Deep.DeepHandedRow
import Derived.Lib.LaidTab
import Derived.Test.YtpmmjkiclngpmaaGreatDoorRows
import Derived.JoinedOf
import Derived.Test.YtpmmjkiclngpmaaGreatDoorR08
import Derived.ChangeSlices
import Derived.ChangeMaps5
import Derived.SizedLaws
import Derived.Deep.Slices
import Derived.Carry
import Derived.WideKeyArgs
set_option maxRecDepth 100000
set_option linter.unusedSimpArgs false
set_option linter.unusedVariables false
set_option maxHeartbeats 12800000
namespace Go.Proofs.YtpmmjkiclngpmaaGreatDoor
open Go.ChangeShapes Go.WideShapes Go.ChangeAt Go.RowKit
variable{W W':World}
theorem both{a b:Bool}(h:a=true)(k:b=true):(a&&b)=true:=by rw [h,k];rfl
theorem Dt(h:Below W.heap.size W W'){b:Nat}(hb:b<W.heap.size)(off:Nat):W'.frozen? ⟨b,off,none⟩=W.frozen? ⟨b,off,none⟩:=by
 unfold World.frozen?;rw [h.block b hb]
theorem IW{H:Type}{enc:TypeId×Value->H}{P:Program}{f:Func}{s:ChangeSpec}{apart fresh handsOn again:Bool}{args:Array Value}{v:Value}{ds gs:List (DataW H)}{before pa pv:List MemPlace}(hW:DataW.Whole enc P f.params.toList s.vars apart W args.toList ds gs before)(hb:Below W.heap.size W W')(YV:before=pa++pv)(hres:∀(b:Nat) (sp:Nat->Bool) (hd:Bool),DataW.TrodAll enc P W' b sp hd f.resultTypes.toList (v.resultList f.resultTypes.size) (s.fn H (ds++gs)).results [])(Q1:∀sp:Nat->Bool,(∀p∈before,sp p.block=true)->DataW.TrodAll enc P W' 0 sp true f.params.toList args.toList (s.fn H (ds++gs)).args pa)(UG:∀sp:Nat->Bool,(∀p∈before,sp p.block=true)->DataW.TrodVars enc P W' sp s.vars (s.fn H (ds++gs)).vars pv)(bp:∀(j:Nat) (t:TypeId) (r:Value),f.resultTypes[j]?=some t->(v.resultList f.resultTypes.size)[j]?=some r->Value.okWide P W' .any 0 t r):
  s.post enc P f apart fresh handsOn again W args v W':=by
 have kV:∀p∈before,p.block<W.heap.size:=hW.lt;have hWh:=hW;subst YV;refine⟨ds,gs,pa++pv,[],pa,pv,hW,hres _ _ _,Q1 _ (λp hp=>by simpa using kV p hp),UG _ (λp hp=>by simpa using kV p hp),World.keptBut_mono (λp hp=>⟨hp,Or.inr (List.mem_append.1 hp)⟩) (hb.frame (· ∈pa++pv)),λ_=> ?_⟩;obtain⟨_,_,_,_,_,hz,hn⟩:=hWh;refine⟨bp,_,_,([]++pa)++pv,⟨[]++pa,pv,trodAll_append (Q1 _ (λ_ _=>rfl)) (hres _ _ _),UG _ (λ_ _=>rfl),rfl,λb off hp=> ?_,λha=> ?_⟩,λp hp _=> ?_⟩
 ·have hp':MemPlace.cell b off∈pa++pv:=by simpa using hp
  rw [Dt hb (show b<W.heap.size from kV _ hp') off];exact hz b off hp'
 ·simpa using hn ha
 simpa using hp
theorem acP:ownKnob Tryz.prog.godebug=none:=by kernel_rfl
abbrev XE:Array Value:=#[.int .u64 1,.int .u64 10,.int .u64 100,.int .u64 1000,.int .u64 10000,.int .u64 100000,.int .u64 1000000,.int .u64 10000000,.int .u64 100000000,.int .u64 1000000000,.int .u64 10000000000,.int .u64 100000000000,.int .u64 1000000000000,.int .u64 10000000000000,.int .u64 100000000000000,.int .u64 1000000000000000,.int .u64 10000000000000000,.int .u64 100000000000000000,.int .u64 1000000000000000000,.int .u64 10000000000000000000]
abbrev Q2:Array Value:=#[.int .u8 0,.int .u8 1,.int .u8 28,.int .u8 2,.int .u8 29,.int .u8 14,.int .u8 24,.int .u8 3,.int .u8 30,.int .u8 22,.int .u8 20,.int .u8 15,.int .u8 25,.int .u8 17,.int .u8 4,.int .u8 8,.int .u8 31,.int .u8 27,.int .u8 13,.int .u8 23,.int .u8 21,.int .u8 19,.int .u8 16,.int .u8 7,.int .u8 26,.int .u8 12,.int .u8 18,.int .u8 6,.int .u8 11,.int .u8 5,.int .u8 10,.int .u8 9]
abbrev Q3:Array Value:=#[.int .u8 0,.int .u8 1,.int .u8 56,.int .u8 2,.int .u8 57,.int .u8 49,.int .u8 28,.int .u8 3,.int .u8 61,.int .u8 58,.int .u8 42,.int .u8 50,.int .u8 38,.int .u8 29,.int .u8 17,.int .u8 4,.int .u8 62,.int .u8 47,.int .u8 59,.int .u8 36,.int .u8 45,.int .u8 43,.int .u8 51,.int .u8 22,.int .u8 53,.int .u8 39,.int .u8 33,.int .u8 30,.int .u8 24,.int .u8 18,.int .u8 12,.int .u8 5,.int .u8 63,.int .u8 55,.int .u8 48,.int .u8 27,.int .u8 60,.int .u8 41,.int .u8 37,.int .u8 16,.int .u8 46,.int .u8 35,.int .u8 44,.int .u8 21,.int .u8 52,.int .u8 32,.int .u8 23,.int .u8 11,.int .u8 54,.int .u8 26,.int .u8 40,.int .u8 15,.int .u8 34,.int .u8 20,.int .u8 31,.int .u8 10,.int .u8 25,.int .u8 14,.int .u8 19,.int .u8 9,.int .u8 13,.int .u8 8,.int .u8 7,.int .u8 6]
def jx(v:Array Value):Obj->Obj
 | .cells _ t frozen=> .cells v t frozen
 |o=>o
theorem i64_in{n:Int}(h:(Lit.int .i64 n).wf=true): -9223372036854775808<=n/\n<=9223372036854775807:=by
 have h':(decide (IntKind.i64.min<=n)&&decide (n<=IntKind.i64.max))=true:=h;simp only [Bool.and_eq_true,decide_eq_true_eq]at h';exact h'
end Go.Proofs.YtpmmjkiclngpmaaGreatDoor
namespace Go.Proofs.YtpmmjkiclngpmaaGreatDoor
set_option maxHeartbeats 40000000 in
theorem Gg:joinedFacts Tryz.prog 3 Tryz.f3 (OpenSpec.ofChange Rows.toldSpec).bare Rows.toldRow=true:=by
 unfold joinedFacts;refine both (both (both (both (both (both (both (both (both (both (both (both (both (both (both (both (both (both (both (both (both (both (both (both (both (both (both (both (both (both (both ?_ ?_) ?_) ?_) ?_) ?_) ?_) ?_) ?_) ?_) ?_) ?_) ?_) ?_) ?_) ?_) ?_) ?_) ?_) ?_) ?_) ?_) ?_) ?_) ?_) ?_) ?_) ?_) ?_) ?_) ?_) ?_
 all_goals decide+kernel
end Go.Proofs.YtpmmjkiclngpmaaGreatDoor
namespace Go.Proofs.YtpmmjkiclngpmaaGreatDoor
open Go.ChangeShapes Go.WideShapes Go.ChangeAt Go.RowKit Go.Deep
variable{cs:List Value}{n base:Nat}{W:World}
theorem JY:Tryz.prog.cellsOf 75=6:=by kernel_rfl
theorem Tz:Tryz.prog.bytesOf 75=80:=by kernel_rfl
theorem wV:Tryz.prog.cellsOf 3=1:=by kernel_rfl
theorem Cl:Tryz.prog.cellsOf 9=1:=by kernel_rfl
theorem IX:Tryz.prog.cellsOf 25=1:=by kernel_rfl
theorem UH{α:Type}{l:List α}(h:l.length=6):∃a b c d e f,l= [a,b,c,d,e,f]:=by
 match l,h with
 | [a,b,c,d,e,f],_=>exact⟨a,b,c,d,e,f,rfl⟩
theorem T2{H:Type}{enc:TypeId×Value->H}{sp:Nat->Bool}{held:Bool}{x:DataW H×List MemPlace}(h:DataW.trod enc Tryz.prog W base sp held n 75 cs=some x):
  ∃z:UF,cs= [.int .i64 z.K,.int .i64 z.M,.int .i64 z.A,.string ⟨z.s.toArray⟩,.string ⟨z.t.toArray⟩,.slice z.lo z.ln z.lc]/\(Lit.int .i64 z.M).wf=true/\∃dl,x.1=.agg [.lit (.int .i64 z.K),.lit (.int .i64 z.M),.lit (.int .i64 z.A),.lit (.string z.s),.lit (.string z.t),dl]:=by
 obtain⟨xs,m,_,rfl,hl,hlen,hf⟩:=DataW.trod_struct Tryz.underlying75 h;rw [JY]at hl;obtain⟨c0,c1,c2,c3,c4,c5,rfl⟩:=UH hl;obtain⟨y0,y1,y2,y3,y4,y5,rfl⟩:=UH (l:=xs) (by simpa using hlen)
 have f0:DataW.trod enc Tryz.prog W base sp held m 3 [c0]=some y0:=by have:=hf 0 _ rfl;simpa [wV]using this
 have f1:DataW.trod enc Tryz.prog W base sp held m 3 [c1]=some y1:=by have:=hf 1 _ rfl;simpa [wV]using this
 have f2:DataW.trod enc Tryz.prog W base sp held m 3 [c2]=some y2:=by have:=hf 2 _ rfl;simpa [wV]using this
 have f3:DataW.trod enc Tryz.prog W base sp held m 9 [c3]=some y3:=by have:=hf 3 _ rfl;simpa [Cl]using this
 have f4:DataW.trod enc Tryz.prog W base sp held m 9 [c4]=some y4:=by have:=hf 4 _ rfl;simpa [Cl]using this
 have f5:DataW.trod enc Tryz.prog W base sp held m 25 [c5]=some y5:=by have:=hf 5 _ rfl;simpa [IX]using this
 obtain⟨k,hk,rfl,_⟩:=DataW.trod_int Tryz.underlying3 f0;obtain⟨mm,hm,rfl,VC⟩:=DataW.trod_int Tryz.underlying3 f1;obtain⟨a,ha,rfl,_⟩:=DataW.trod_int Tryz.underlying3 f2;obtain⟨s,hs,rfl,_⟩:=DataW.trod_string Tryz.underlying9 f3;obtain⟨t,ht,rfl,_⟩:=DataW.trod_string Tryz.underlying9 f4
 obtain⟨lo,ln,lc,hlv⟩:∃lo ln lc,c5=.slice lo ln lc:=by
  rcases DataW.trod_slice Tryz.underlying25 f5 with⟨e,_⟩|⟨a,len,cap,_,_,_,_,e,_⟩
  ·injection e with e;exact⟨none,0,0,e⟩
  ·injection e with e;exact⟨some a,len,cap,e⟩
 injection hk with hk _
 injection hm with hm _
 injection ha with ha _
 injection hs with hs _
 injection ht with ht _
 subst hk hm ha hs ht hlv;exact⟨⟨k,mm,a,s.data.toList,t.data.toList,lo,ln,lc⟩,by simp,VC,y5.1,by simp⟩
theorem rN{H:Type}{P:Program}{e:TypeId}{d:DataW H}{l:List (DataW H)}(h:d∈l){x:Nat}(hx:x∈d.weights P e):x∈DataW.weightsAll P e l:=by
 induction l with
 |nil=>cases h
 |cons y r ih=>
  rw [DataW.weightsAll,List.mem_append]
  rcases List.mem_cons.mp h with rfl|h
  ·exact Or.inl hx
  ·exact Or.inr (ih h)
theorem IY{H:Type}{k m a:Int}{s t:List UInt8}{dl:DataW H}:s.length∈(DataW.agg [.lit (.int .i64 k),.lit (.int .i64 m),.lit (.int .i64 a),.lit (.string s),.lit (.string t),dl]:DataW H).weights Tryz.prog 75/\t.length∈(DataW.agg [.lit (.int .i64 k),.lit (.int .i64 m),.lit (.int .i64 a),.lit (.string s),.lit (.string t),dl]:DataW H).weights Tryz.prog 75:=by
 rw [DataW.weights,Tryz.underlying75];simp [DataW.weightsEach,DataW.weights]
theorem XF{a:Addr}(h:W.cells? base a 6=some cs)(o:Nat)(ho:o<6):W.cell? (a.add o)=cs[o]?:=by
 unfold World.cells? at h
 split at h
 ·exact mapM_some_get h o o (by simp [ho])
 cases h
theorem Q4{H:Type}{enc:TypeId×Value->H}{len cap:Nat}{a0:Option Addr}{d:DataW H}{p:List MemPlace}{ts:List TypeId}{ds:List (DataW H)}(hf:DataW.trod enc Tryz.prog W 0 (λ_=>true) true n 22 [.slice a0 len cap]=some (d,p))(hsz:(DataW.weightsEach Tryz.prog (22::ts) (d::ds)).all (· <=reachBytes)=true):∃b off zs,len=zs.length/\Cj W b off zs/\(a0=some ⟨b,off,none⟩\/zs= []):=by
 rcases open_slice Tryz.underlying22 hf with⟨hcs,hx⟩|⟨a,aec,cap',m,n',D,Pl,hcs,_,hl,hmx,hm,hx,M5⟩
 ·injection hcs with hcs _
  injection hcs with h1 h2 h3
  subst h2;exact⟨0,0,[],rfl,⟨λe=>absurd rfl e,λj hj=>absurd hj (by simp),λj hj=>absurd hj (by simp),λj hj=>absurd hj (by simp),λj hj=>absurd hj (by simp),λj hj=>absurd hj (by simp),λj hj=>absurd hj (by simp),λz hz=>(by cases hz),λz hz=>(by cases hz),λz hz=>(by cases hz),λz hz=>(by cases hz),by simp⟩,Or.inr rfl⟩
 injection hcs with hcs _
 injection hcs with h1 h2 h3
 subst h1 h2 h3
 obtain rfl:m=cap:=by simpa using hm
 simp only [Prod.mk.injEq]at hx;obtain⟨rfl,rfl⟩:=hx
 have hw:∀x∈(DataW.slice ((List.range len).map D) ((List.range (m-len)).map λj=>D (len+j)):DataW H).weights Tryz.prog 22,x<=reachBytes:=λx hx=>by
  rw [List.all_eq_true]at hsz;simpa using hsz x (by rw [DataW.weightsEach,List.mem_append];exact Or.inl hx)
 rw [DataW.weights,Tryz.underlying22]at hw;simp only [List.mem_cons,List.mem_append]at hw;have hlen:=hw _ (Or.inl rfl);rw [Tz]at hlen;simp only [List.length_map,List.length_range]at hlen;unfold reachBytes at hlen
 have hz:∀i,i<len->∃z:UF,(∀o,o<6->W.cell? ((a.add (i*6)).add o)=([.int .i64 z.K,.int .i64 z.M,.int .i64 z.A,.string ⟨z.s.toArray⟩,.string ⟨z.t.toArray⟩,.slice z.lo z.ln z.lc]:List Value)[o]?)/\(-9223372036854775808<=z.M/\z.M<=9223372036854775807)/\z.s.length<=140737488355328/\z.t.length<=140737488355328:=λi hi=>by
  obtain⟨cs',hc,ht⟩:=M5 i (by omega);rw [JY]at hc;obtain⟨z,rfl,VC,dl,hd⟩:=T2 ht;have hd':D i=.agg [.lit (.int .i64 z.K),.lit (.int .i64 z.M),.lit (.int .i64 z.A),.lit (.string z.s),.lit (.string z.t),dl]:=hd;have qG:D i∈(List.range len).map D:=List.mem_map.mpr ⟨i,List.mem_range.mpr hi,rfl⟩;have q:=IY (k:=z.K) (m:=z.M) (a:=z.A) (s:=z.s) (t:=z.t) (dl:=dl);rw [<-hd']at q;have q1:=hw _ (Or.inr (Or.inl (rN qG q.1)));have q2:=hw _ (Or.inr (Or.inl (rN qG q.2)));unfold reachBytes at q1 q2;exact⟨z,λo ho=>XF hc o ho,i64_in VC,by omega,by omega⟩
 let g:Nat->UF:=λi=>if h:i<len then Classical.choose (hz i h)else⟨0,0,0,[],[],none,0,0⟩
 have hg:∀i (h:i<len),g i=Classical.choose (hz i h):=λi h=>dif_pos h
 have hgz:∀i,i<len->(∀o,o<6->W.cell? ((a.add (i*6)).add o)=([.int .i64 (g i).K,.int .i64 (g i).M,.int .i64 (g i).A,.string ⟨(g i).s.toArray⟩,.string ⟨(g i).t.toArray⟩,.slice (g i).lo (g i).ln (g i).lc]:List Value)[o]?)/\(-9223372036854775808<=(g i).M/\(g i).M<=9223372036854775807)/\(g i).s.length<=140737488355328/\(g i).t.length<=140737488355328:=λi h=>by rw [hg i h];exact Classical.choose_spec (hz i h)
 clear_value g
 have hzl:((List.range len).map g).length=len:=by simp
 rcases Nat.eq_zero_or_pos len with h0|h0
 ·subst h0
  exact⟨0,0,[],rfl,⟨λe=>absurd rfl e,λj hj=>absurd hj (by simp),λj hj=>absurd hj (by simp),λj hj=>absurd hj (by simp),λj hj=>absurd hj (by simp),λj hj=>absurd hj (by simp),λj hj=>absurd hj (by simp),λz hz=>(by cases hz),λz hz=>(by cases hz),λz hz=>(by cases hz),λz hz=>(by cases hz),by simp⟩,Or.inr rfl⟩
 obtain⟨b,off,spot⟩:=a;have hc0:=(hgz 0 h0).1 0 (by omega)
 have hspot:spot=none:=by simpa [Addr.add]using World.cell?_spot (hc0.trans rfl)
 subst hspot;have hbl:b<W.heap.size:=World.block_lt_of_cell? _ _ (hc0.trans rfl)
 have hcc:∀i,i<len->∀o,o<6->W.cell? ⟨b,off+i*6+o,none⟩=([.int .i64 (g i).K,.int .i64 (g i).M,.int .i64 (g i).A,.string ⟨(g i).s.toArray⟩,.string ⟨(g i).t.toArray⟩,.slice (g i).lo (g i).ln (g i).lc]:List Value)[o]?:=λi hi o ho=>by have q:=(hgz i hi).1 o ho;rwa [add_plain,add_plain]at q
 refine⟨b,off,(List.range len).map g,hzl.symm,⟨λ_=>hbl,?_,?_,?_,?_,?_,?_,?_,?_,?_,?_,by omega⟩,Or.inl rfl⟩
 iterate 6 (intro j hj;rw [hzl]at hj;simp only [List.getElem_map,List.getElem_range];first|exact hcc j hj 0 (by omega)|exact hcc j hj 1 (by omega)|exact hcc j hj 2 (by omega)|exact hcc j hj 3 (by omega)|exact hcc j hj 4 (by omega)|exact hcc j hj 5 (by omega))
 all_goals
  intro z hz;obtain⟨i,hi,rfl⟩:=List.mem_map.mp hz;have:=hgz i (List.mem_range.mp hi)
  first|exact this.2.1.1|exact this.2.1.2|exact this.2.2.1|exact this.2.2.2
end Go.Proofs.YtpmmjkiclngpmaaGreatDoor
