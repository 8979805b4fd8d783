/- YtpmmjkiclngpmaaGreatDoorB26 -/
import Derived.Shelf.Strings.Builder1
import Derived.Shelf.Strings.Builder2
import Derived.Shelf.Strings.OnBuilder
import Derived.Test.YtpmmjkiclngpmaaGreatDoorB24
set_option maxRecDepth 100000
set_option linter.unusedSimpArgs false
set_option linter.unusedVariables false
set_option maxHeartbeats 12800000
namespace Go.Proofs
open Go.Shelf
def Tryz.lays156_ren:Go.Shelf.Ren:=⟨λ|156=>216|165=>254|166=>66|169=>69|240=>101|241=>279|276=>151|277=>286|n=>n,λ|31=>58|9=>9|3=>3|4=>4|0=>0|20=>20|72=>141|76=>144|70=>139|37=>115|75=>143|127=>198|164=>268|5=>5|80=>45|n=>n,λ|n=>n⟩
theorem Tryz.lays156:Go.Proofs.Lays.n156 prog Tryz.lays156_ren:={
 mixed:=by kernel_rfl
 f156:=func216.trans (congrArg some (by kernel_rfl))
 f165:=func254.trans (congrArg some (by kernel_rfl))
 f166:=func66.trans (congrArg some (by kernel_rfl))
 f169:=func69.trans (congrArg some (by kernel_rfl))
 f240:=func101.trans (congrArg some (by kernel_rfl))
 f241:=func279.trans (congrArg some (by kernel_rfl))
 f276:=func151.trans (congrArg some (by kernel_rfl))
 f277:=func286.trans (congrArg some (by kernel_rfl))
 t0:=underlying0
 a0:=isAgg0
 z0:=sizeOf0
 v0:=zeroValue0
 t3:=underlying3
 a3:=isAgg3
 z3:=sizeOf3
 v3:=zeroValue3
 t4:=underlying4
 a4:=isAgg4
 z4:=sizeOf4
 v4:=zeroValue4
 t9:=underlying9
 a9:=isAgg9
 z9:=sizeOf9
 v9:=zeroValue9
 t20:=underlying20
 a20:=isAgg20
 z20:=sizeOf20
 v20:=zeroValue20
 t31:=underlying58
 a31:=isAgg58
 z31:=sizeOf58
 v31:=zeroValue58
 t37:=underlying115
 a37:=isAgg115
 z37:=sizeOf115
 v37:=zeroValue115
 t70:=underlying139
 a70:=isAgg139
 z70:=sizeOf139
 v70:=zeroValue139
 t72:=underlying141
 a72:=isAgg141
 z72:=sizeOf141
 v72:=zeroValue141
 t75:=underlying143
 a75:=isAgg143
 z75:=sizeOf143
 v75:=zeroValue143
 t76:=underlying144
 a76:=isAgg144
 z76:=sizeOf144
 v76:=zeroValue144
 t127:=underlying198
 a127:=isAgg198
 z127:=sizeOf198
 v127:=zeroValue198
 t164:=underlying268
 a164:=isAgg268
 z164:=sizeOf268
 v164:=zeroValue268}
theorem Tryz.Builder_Extra_156:Builder.Extra prog Tryz.lays156_ren:={
 sizeBuilder:=by kernel_rfl
 liesBuilder:=by kernel_rfl
 t5:=underlying5
 a5:=isAgg5
 z5:=sizeOf5
 v5:=zeroValue5
 infoByte:=by kernel_rfl
 cellsByte:=by kernel_rfl
 sizeByte:=by kernel_rfl
 neB5:=by decide}
open Go.RowKit in
theorem Tryz.strings_Join_none(a:Option Addr)(c:Nat)(sep:ByteArray)(w:World):
  Calls prog 216 #[.slice a 0 c,.string sep] w λe w'=>e=.returned (.string ⟨#[]⟩)/\w'=w:=Any.strings_Join_none Tryz.lays156 Tryz.Builder_Extra_156 a c sep w
open Go.RowKit in
theorem Tryz.strings_Join(bk o c:Nat)(xs:List ByteArray)(sep:ByteArray)(w:World)(V9:∀(j:Nat) x,xs[j]?=some x->w.cell? ⟨bk,o+j,none⟩=some (.string x))(jX:bk<w.heap.size)(hN:xs.length<=140737488355328)(Vp:xs.length<=c)(hlen:(Lib.join (xs.map (·.data.toList)) sep.data.toList).length<=140737488355328):
  Calls prog 216 #[.slice (some ⟨bk,o,none⟩) xs.length c,.string sep] w λe w'=>e=.returned (.string ⟨(Lib.join (xs.map (·.data.toList)) sep.data.toList).toArray⟩)/\Below w.heap.size w w':=Any.strings_Join Tryz.lays156 Tryz.Builder_Extra_156 bk o c xs sep w V9 jX hN Vp hlen
end Go.Proofs
namespace Go.Proofs.YtpmmjkiclngpmaaGreatDoor
open Tryz
open Go.RowKit
def iM(t:Nat):List UInt8:=if t=1 then [105,110,116]else if t=2 then [98,111,111,108]else [97,110,121]
theorem rZ{a b:List UInt8}(h:a=b):Ending.returned (.string ⟨a.toArray⟩)=Ending.returned (.string ⟨b.toArray⟩):=by rw [h]
theorem E6(t:Nat)(w:World):Calls prog 215 #[.int .i64 t] w λe w'=>e=.returned (.string ⟨(iM t).toArray⟩)/\w'=w:=by
 have hx:t=1\/t=2\/(¬t=1/\¬t=2):=by omega
 rcases hx with rfl|rfl|⟨h1,h2⟩
 case inr.inr=>
  have HO:=aa (show iM t= [97,110,121] by simp [iM,h1,h2])
  have e1:((t:Int)==1)=false:=by simp;omega
  have e2:((t:Int)==2)=false:=by simp;omega
  go_enter func215,ntmps215
  go_wp2;go_ret;exact⟨rZ (by rw [HO.o]),rfl⟩
 all_goals
  go_enter func215,ntmps215
  go_wp2;go_ret;exact⟨rfl,rfl⟩
def ja(ps:List Nat)(r:Nat):List UInt8:=Lib.join (ps.map iM) [44]++ [58]++iM r
theorem zh(t:Nat):(iM t).length<=4:=by unfold iM;split;decide;split<;>decide
theorem RS(ps:List Nat):Lib.lens (ps.map iM)<=4*ps.length:=by
 induction ps with
 |nil=>decide
 |cons x r ih=>
  have:=zh x;simp only [Lib.lens,List.map_cons,List.sum_cons,List.length_cons]at*;omega
theorem join_le(ps:List Nat):(Lib.join (ps.map iM) [44]).length<=5*ps.length:=by
 cases ps with
 |nil=>decide
 |cons x r=>
  have:=RS (x::r);rw [List.map_cons,Lib.join_length];simp only [List.map_cons,List.length_cons,List.length_map,List.length_nil]at*;omega
def wC(l:List (List UInt8)):List ByteArray:=l.map λt=>⟨t.toArray⟩
theorem xi(l:List (List UInt8)):(wC l).map (·.data.toList)=l:=by
 unfold wC;rw [List.map_map];exact List.map_id l
theorem tU(a b:List UInt8):(⟨a.toArray⟩:ByteArray)++⟨b.toArray⟩=⟨(a++b).toArray⟩:=by
 apply ByteArray.ext
 simp
theorem tk{m:Nat}{S:Nat->Prop}(w:World)(g o:Nat)(f:iL)(hF:lx m S w.heap.size w g o f)(hg:g<w.heap.size)(hl:f.ay.length<=100000):
  Calls prog 174 #[.pointer (some ⟨g,o,none⟩)] w λe w'=>e=.returned (.string ⟨(ja (f.ay.map λp=>p.eF) f.result).toArray⟩)/\Below w.heap.size w w':=by
 obtain⟨pv,bv,b0,b1,b2,b3,b4,b5,b6,b7,b8,b9,⟨po,pc,By,Bl⟩,cO⟩:=hF;subst By;have E4:=aa Bl;have eJ:=aa b4;obtain⟨ts,hts⟩:∃ts:List (List UInt8),(f.ay.map λp=>p.eF).map iM=ts:=⟨_,rfl⟩;have HTs:=aa hts
 have ye:ts.length=f.ay.length:=by rw [<-hts];simp
 have HTj:=aa (λ(j:Nat) (hj:j<f.ay.length)=>(by rw [List.take_succ_eq_append_getElem (by omega)];subst hts;simp [strCells]:strCells (ts.take (j+1))=strCells (ts.take j)++ [.string ⟨(iM f.ay[j].eF).toArray⟩]));clear hts;obtain⟨i0,hi,hz0,hz1,hz2⟩:=info_parts yE;clear Bl cO b0 b1 b2 b4 b5 b6 b7 b8 b9
 go_enter func174,ntmps174
 go_wp2
 go_loopg [11,3] f.ay.length (λn i tv wr=>∃(j:Nat),n+j=f.ay.length/\i=.int .i64 j/\Hy (wr.ownsRow w.heap.size 9 1 tv j (strCells (ts.take j)))/\Hy (Below w.heap.size w wr))
 case atStart=>exact⟨0,by omega,rfl,World.ownsRow_nil _ _ _ _,Below.refl _ _⟩
 obtain⟨j,hj,rfl,HT,HB⟩:=hrel;have Cu:=HB.o.size
 by_cases hlt:j<f.ay.length
 ·obtain⟨gb,rfl,hgb,TP,hat⟩:=E4.o (by omega)
  obtain⟨q0,q1,q2⟩:=hat j hlt;have d0:=(aC HB.o hgb _).trans q0;have d1:=(aC HB.o hgb _).trans q1;have d2:=(aC HB.o hgb _).trans q2
  have KA:gb<wr.heap.size:=by omega
  have ou:=aa (HTj.o j hlt);obtain⟨tq,tc,rfl⟩:=ak HT.o;generalize hx:f.ay[j]=x at*;clear hx hat q0 q1 q2
  go_wp2_with fail
  refine(E6 x.eF _).mono ?_;rintro e w2 ⟨rfl,rfl⟩;generalize V6:wr.alloc (.cells #[.string ⟨x.ag.toArray⟩,.int .i64 x.ai,.int .i64 x.eF] 301)=wp at*;have TT:=aa (show Below wr.heap.size wr wp by rw [<-V6];exact(Below.refl _ _).alloc (Nat.le_refl _) _);have hsp:=TT.o.size;have HTp:=aa (bE HT.o (λk _ l=>TT.o.block k l):wp.ownsRow w.heap.size 9 1 (.slice tq j tc) j (strCells (ts.take j)));clear V6
  go_wp2_with (at_builtin;refine bC _ rfl _ _ 58 rfl w.heap.size 9 i0 (.string ⟨#[]⟩) 1 16 underlying58 hi hz0 hz1 hz2 rfl (by decide) _ _ _ rfl (HTp.o.alloc _) ⟨wp.heap.size,0,none⟩ 1 1 [.string ⟨(iM x.eF).toArray⟩] rfl rfl (pU wp _ _) ?c2 (by decide) ?c3 ?c4 ?c5 ?_)
  case c2=>intro u hu;simp at hu;subst hu;rfl
  case c3=>unfold maxLen;omega
  case c4=>omega
  case c5=>simp;omega
  intro g' cap' w3 hown aB aJ;have HO:=aa hown;have HG:=aa aB;clear hown aB aJ;go_wp2
  go_roundg (gk-1)
  case measure=>omega
  case rel=>
   refine⟨j+1,by omega,by first|rfl|go_num,?_,?_⟩
   ·show World.ownsRow _ _ _ _ _ _ _
    rw [ou.o];exact HO.o
   ·show Below _ _ _
    exact(HB.o.trans (TT.o.mono Cu)).trans (((Below.refl _ _).alloc (Nat.le_refl _) _|>.mono (by omega)).grown HG.o (by simp;omega) (λk e=>(aG HTp.o k e).1))
 have jU:j=f.ay.length:=by omega
 subst jU;have r4:=(aC HB.o hg (o+4)).trans eJ.o
 have hgr:g<wr.heap.size:=by omega
 have VA:=aa (show ts.take f.ay.length=ts by rw [List.take_of_length_le (by omega)]);have HJ:=aa (join_le (f.ay.map λp=>p.eF));obtain⟨tq,tc,rfl⟩:=ak HT.o;obtain⟨jt,hjt⟩:∃jt,Lib.join ts [44]=jt:=⟨_,rfl⟩
 have wj:jt.length<=500000:=by rw [<-hjt,<-HTs.o];have:=HJ.o;rw [List.length_map]at this;omega
 have HJt:=aa hjt;have HSg:=aa (show ja (f.ay.map λp=>p.eF) f.result=jt++ [58]++iM f.result by unfold ja;rw [HTs.o,hjt])
 have TV:∀wq,Below wr.heap.size wr wq->Calls prog 216 #[.slice tq f.ay.length tc,.string ⟨#[44]⟩] wq λe w'=>e=.returned (.string ⟨jt.toArray⟩)/\Below wq.heap.size wq w':=by
  intro wq hq
  rcases Nat.eq_zero_or_pos f.ay.length with h0|jR
  ·have he:f.ay= []:=List.eq_nil_of_length_eq_zero (by omega)
   rw [h0];refine(Tryz.strings_Join_none tq tc ⟨#[44]⟩ wq).mono ?_;rintro e w' ⟨rfl,rfl⟩;refine⟨?_,Below.refl _ _⟩;have:ts= []:=List.eq_nil_of_length_eq_zero (by omega);rw [<-HJt.o,this];rfl
  ·obtain⟨g',cap',aU,hv,xG,hg2,hg3,hg4,rR,Gp⟩:=cN HT.o jR
   simp only [Value.slice.injEq]at hv;obtain⟨rfl,_,rfl⟩:=hv
   have hlen:(wC ts).length=f.ay.length:=by simp [wC];omega
   have:=Tryz.strings_Join g' 0 tc (wC ts) ⟨#[44]⟩ wq (by
    intro i x hx
    have hi:i<f.ay.length:=by rw [<-hlen];exact(List.getElem?_eq_some_iff.1 hx).1
    rw [Nat.zero_add,aC hq (af hg2),dt HT.o i (by omega),VA.o];rw [wC,List.getElem?_map]at hx;rw [strCells,List.getElem?_map];obtain⟨q,QC,rfl⟩:=Option.map_eq_some_iff.1 hx
    rw [QC];rfl) (Nat.lt_of_lt_of_le (af hg2) hq.size) (by rw [hlen];omega) (by rw [hlen];omega) (by rw [xi];show(Lib.join _ [44]).length<=_;rw [HJt.o];omega)
   rw [hlen,xi]at this;have e2:Lib.join ts (ByteArray.mk #[44]).data.toList=jt:=HJt.o;rw [e2]at this;exact this
 have HJn:=aa TV;have Hg:=zh f.result;clear TV hjt
 go_wp2_with fail
 go_region_with (first
  |(go_at_call 216;go_must (refine(HJn.o _ ?_).mono ?_;(first|exact(Below.refl _ _).drew|exact Below.refl _ _);rintro e w5 ⟨rfl,cZ⟩;have gT:=aa cZ;have r5:=(aC (qT cZ) hgr (o+4)).trans r4;have hs5:g<w5.heap.size:=(by have:=cZ.size;simp at this;omega);clear cZ))
  |(go_at_call 215;go_must (refine(E6 f.result _).mono ?_;rintro e w6 ⟨rfl,rfl⟩)))
 all_goals
  (try go_wp2_with fail)
  go_wp2;go_ret;refine⟨rZ ?_,HB.o.trans ((qT gT.o).mono Cu)⟩;rw [HSg.o];simp
end Go.Proofs.YtpmmjkiclngpmaaGreatDoor
