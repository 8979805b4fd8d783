/- YtpmmjkiclngpmaaGreatDoorR01 -/
import Derived.Test.YtpmmjkiclngpmaaGreatDoorB22
import Derived.Test.YtpmmjkiclngpmaaGreatDoorB17
set_option maxRecDepth 100000
set_option linter.unusedSimpArgs false
set_option linter.unusedVariables false
set_option maxHeartbeats 12800000
namespace Go.Proofs.YtpmmjkiclngpmaaGreatDoor
open Tryz
open Go.RowKit
variable{c:UInt8}{n r:List UInt8}{w w':World}{g i k m:Nat}{bad:Bool}{R fa:PS->Ex×PS}{t:List (List UInt8)}{st:PS}{x:Wd}
def Brk(r:List UInt8):Prop:=∀c t,r=c::t->aS (c.toNat:Int)=false
def Lx(s:List UInt8)(W:Nat->List Wd):Prop:=∀p r,Brk r->aD (s++r) p=W p++aD r (p+s.length)
def Lf(s:List UInt8)(W:Nat->List Wd):Prop:=∀p r,aD (s++r) p=W p++aD r (p+s.length)
theorem Lf.blank(h:bm (c.toNat:Int)=true):Lf [c] (λ_=> []):=λp r=>by
 rw [List.nil_append]
 have e:aT bm ([c]++r)=aT bm r+1:=by show aT bm (c::r)=_;simp [aT,h]
 have d:([c]++r).drop (aT bm ([c]++r))=r.drop (aT bm r):=by rw [e];rfl
 rcases hd:r.drop (aT bm r)with _|⟨x,t⟩
 ·rw [om _ _ (d.trans hd),om _ _ hd,e]
  show [(⟨0,[],p+(aT bm r+1)⟩:Wd)]= [⟨0,[],p+1+aT bm r⟩];rw [show p+(aT bm r+1)=p+1+aT bm r by omega]
 ·rw [jK _ _ _ _ (d.trans hd),jK _ _ _ _ hd,e]
  show(⟨_,_,p+(aT bm r+1)⟩:Wd)::aD _ (p+(aT bm r+1)+_)=⟨_,_,p+1+aT bm r⟩::aD _ (p+1+aT bm r+_);rw [show p+(aT bm r+1)=p+1+aT bm r by omega]
theorem zE{r:List UInt8}(h:bm (c.toNat:Int)=false)(p:Nat):
  aD (c::r) p=⟨(aV (c::r)).1,(c::r).take (aV (c::r)).2,p⟩::aD ((c::r).drop (aV (c::r)).2) (p+(aV (c::r)).2):=by
 have e:aT bm (c::r)=0:=by simp [aT,h]
 have:=jK (c::r) p c r (by rw [e];rfl);rw [e,Nat.add_zero]at this;exact this
theorem tA{pb:Int->Bool}:∀{a r:List UInt8},(∀c∈a,pb (c.toNat:Int)=true)->(∀c t,r=c::t->pb (c.toNat:Int)=false)->aT pb (a++r)=a.length
 | [],[],_,_=>rfl
 | [],c::t,_,h=>by simp [aT,h c t rfl]
 |x::a,r,h,hr=>by
  rw [List.cons_append];have ih:=tA (pb:=pb) (a:=a) (r:=r) (λc hc=>h c (by simp [hc])) hr;simp [aT,h x (by simp),ih]
theorem Lx.ag{c:UInt8}(h1:bm (c.toNat:Int)=false)(h2:bP (c.toNat:Int)=true)(hn:∀x∈c::n,aS (x.toNat:Int)=true):Lx (c::n) (λp=> [⟨dM (c::n),c::n,p⟩]):=λp r hr=>by
 have e:aT aS ((c::n)++r)=(c::n).length:=tA hn hr
 have f:aV ((c::n)++r)=(dM (c::n),(c::n).length):=by
  show aV (c::(n++r))=_;unfold aV;simp only [h2,if_true];have e':aT aS (c::(n++r))=(c::n).length:=e;rw [e']
  have:(c::(n++r)).take (c::n).length=c::n:=by rw [<-List.cons_append,List.take_left]
  rw [this]
 show aD (c::(n++r)) p=_;rw [zE h1 p];have f':aV (c::(n++r))=(dM (c::n),(c::n).length):=f;rw [f']
 have t1:(c::(n++r)).take (c::n).length=c::n:=by rw [<-List.cons_append,List.take_left]
 have t2:(c::(n++r)).drop (c::n).length=r:=by rw [<-List.cons_append,List.drop_left]
 simp only [t1,t2]
 rfl
theorem dr(n:Int)(w:World):
    Calls prog 127 #[.int .u8 n] w λe w'=>e=.returned (.bool (bP n))/\w'=w:=by
  by_cases h1:97<=n<;>by_cases h2:n<=122<;>
  (go_enter func127,ntmps127
   go_wp2;go_ret
   exact⟨by simp [bP,h1,h2],rfl⟩)
theorem dJ(n:Int)(w:World):
    Calls prog 128 #[.int .u8 n] w λe w'=>e=.returned (.bool (ba n))/\w'=w:=by
  by_cases h1:48<=n<;>by_cases h2:n<=57<;>
  (go_enter func128,ntmps128
   go_wp2;go_ret
   exact⟨by simp [ba,h1,h2],rfl⟩)
theorem iz(s:ByteArray)(w:World):
  Calls prog 126 #[.string s] w λe w'=>e=.returned (.bool (bS s.data.toList))/\w'=w:=by
 have HT:=aa (ByteArray.toList_eq s)
 rcases q0:(s.toList== [117,115,101])with _|_
 rotate_left
 ·have HK:=aa (show bS s.data.toList=true by rw [<-HT.o];simp only [bS,cr,List.contains_cons,q0,List.contains_nil,Bool.true_or,Bool.or_true,Bool.false_or,Bool.or_false])
  go_enter func126,ntmps126
  go_wp2;go_ret;exact⟨bD HK.o.symm,rfl⟩
 rcases q1:(s.toList== [112,117,98])with _|_
 rotate_left
 ·have HK:=aa (show bS s.data.toList=true by rw [<-HT.o];simp only [bS,cr,List.contains_cons,q0,q1,List.contains_nil,Bool.true_or,Bool.or_true,Bool.false_or,Bool.or_false])
  go_enter func126,ntmps126
  go_wp2;go_ret;exact⟨bD HK.o.symm,rfl⟩
 rcases q2:(s.toList== [102,110])with _|_
 rotate_left
 ·have HK:=aa (show bS s.data.toList=true by rw [<-HT.o];simp only [bS,cr,List.contains_cons,q0,q1,q2,List.contains_nil,Bool.true_or,Bool.or_true,Bool.false_or,Bool.or_false])
  go_enter func126,ntmps126
  go_wp2;go_ret;exact⟨bD HK.o.symm,rfl⟩
 rcases q3:(s.toList== [105,102])with _|_
 rotate_left
 ·have HK:=aa (show bS s.data.toList=true by rw [<-HT.o];simp only [bS,cr,List.contains_cons,q0,q1,q2,q3,List.contains_nil,Bool.true_or,Bool.or_true,Bool.false_or,Bool.or_false])
  go_enter func126,ntmps126
  go_wp2;go_ret;exact⟨bD HK.o.symm,rfl⟩
 rcases q4:(s.toList== [116,104,101,110])with _|_
 rotate_left
 ·have HK:=aa (show bS s.data.toList=true by rw [<-HT.o];simp only [bS,cr,List.contains_cons,q0,q1,q2,q3,q4,List.contains_nil,Bool.true_or,Bool.or_true,Bool.false_or,Bool.or_false])
  go_enter func126,ntmps126
  go_wp2;go_ret;exact⟨bD HK.o.symm,rfl⟩
 rcases q5:(s.toList== [101,108,115,101])with _|_
 rotate_left
 ·have HK:=aa (show bS s.data.toList=true by rw [<-HT.o];simp only [bS,cr,List.contains_cons,q0,q1,q2,q3,q4,q5,List.contains_nil,Bool.true_or,Bool.or_true,Bool.false_or,Bool.or_false])
  go_enter func126,ntmps126
  go_wp2;go_ret;exact⟨bD HK.o.symm,rfl⟩
 rcases q6:(s.toList== [108,101,116])with _|_
 rotate_left
 ·have HK:=aa (show bS s.data.toList=true by rw [<-HT.o];simp only [bS,cr,List.contains_cons,q0,q1,q2,q3,q4,q5,q6,List.contains_nil,Bool.true_or,Bool.or_true,Bool.false_or,Bool.or_false])
  go_enter func126,ntmps126
  go_wp2;go_ret;exact⟨bD HK.o.symm,rfl⟩
 rcases q7:(s.toList== [105,110])with _|_
 rotate_left
 ·have HK:=aa (show bS s.data.toList=true by rw [<-HT.o];simp only [bS,cr,List.contains_cons,q0,q1,q2,q3,q4,q5,q6,q7,List.contains_nil,Bool.true_or,Bool.or_true,Bool.false_or,Bool.or_false])
  go_enter func126,ntmps126
  go_wp2;go_ret;exact⟨bD HK.o.symm,rfl⟩
 rcases q8:(s.toList== [116,114,117,101])with _|_
 rotate_left
 ·have HK:=aa (show bS s.data.toList=true by rw [<-HT.o];simp only [bS,cr,List.contains_cons,q0,q1,q2,q3,q4,q5,q6,q7,q8,List.contains_nil,Bool.true_or,Bool.or_true,Bool.false_or,Bool.or_false])
  go_enter func126,ntmps126
  go_wp2;go_ret;exact⟨bD HK.o.symm,rfl⟩
 rcases q9:(s.toList== [102,97,108,115,101])with _|_
 rotate_left
 ·have HK:=aa (show bS s.data.toList=true by rw [<-HT.o];simp only [bS,cr,List.contains_cons,q0,q1,q2,q3,q4,q5,q6,q7,q8,q9,List.contains_nil,Bool.true_or,Bool.or_true,Bool.false_or,Bool.or_false])
  go_enter func126,ntmps126
  go_wp2;go_ret;exact⟨bD HK.o.symm,rfl⟩
 rcases Q5:(s.toList== [105,110,116])with _|_
 rotate_left
 ·have HK:=aa (show bS s.data.toList=true by rw [<-HT.o];simp only [bS,cr,List.contains_cons,q0,q1,q2,q3,q4,q5,q6,q7,q8,q9,Q5,List.contains_nil,Bool.true_or,Bool.or_true,Bool.false_or,Bool.or_false])
  go_enter func126,ntmps126
  go_wp2;go_ret;exact⟨bD HK.o.symm,rfl⟩
 rcases Y1:(s.toList== [98,111,111,108])with _|_
 rotate_left
 ·have HK:=aa (show bS s.data.toList=true by rw [<-HT.o];simp only [bS,cr,List.contains_cons,q0,q1,q2,q3,q4,q5,q6,q7,q8,q9,Q5,Y1,List.contains_nil,Bool.true_or,Bool.or_true,Bool.false_or,Bool.or_false])
  go_enter func126,ntmps126
  go_wp2;go_ret;exact⟨bD HK.o.symm,rfl⟩
 have HK:=aa (show bS s.data.toList=false by rw [<-HT.o];simp only [bS,cr,List.contains_cons,q0,q1,q2,q3,q4,q5,q6,q7,q8,q9,Q5,Y1,List.contains_nil,Bool.true_or,Bool.or_true,Bool.false_or,Bool.or_false])
 go_enter func126,ntmps126
 go_wp2;go_ret;exact⟨bD HK.o.symm,rfl⟩
structure qH where
 aeh:Nat
 aX:List UInt8
 ai:Nat
variable{ws:List qH}
def aY(x:qH):List Value:= [.int .u8 x.aeh,.string ⟨x.aX.toArray⟩,.int .i64 x.ai]
structure lT (g:Nat) (ws:List qH) (w:World):Prop where
 row:∃aU,w.heap[g]?=some (.cells aU 361 (0,0))/\aU.toList.take (ws.length*3)=ws.flatMap aY
 small:ws.length<=100001
theorem Wq(ws:List qH)(i:Nat)(h:i<ws.length):(ws.flatMap aY)[i*3]?=some (.int .u8 ws[i].aeh)/\(ws.flatMap aY)[i*3+1]?=some (.string ⟨ws[i].aX.toArray⟩)/\(ws.flatMap aY)[i*3+2]?=some (.int .i64 ws[i].ai):=by
 induction ws generalizing i with
 |nil=>simp at h
 |cons x r ih=>
  cases i with
  |zero=>simp [aY]
  |succ i=>
   have:=ih i (by simpa using h)
   have e:(i+1)*3=i*3+3:=by omega
   simp only [List.flatMap_cons,aY,e,List.cons_append,List.nil_append,List.getElem?_cons_succ,List.getElem_cons_succ];exact this
theorem lT.word(h:lT g ws w)(i:Nat)(hi:i<ws.length):
  w.cell? ⟨g,i*3,none⟩=some (.int .u8 ws[i].aeh)/\w.cell? ⟨g,i*3+1,none⟩=some (.string ⟨ws[i].aX.toArray⟩)/\w.cell? ⟨g,i*3+2,none⟩=some (.int .i64 ws[i].ai):=by
 obtain⟨aU,hb,hc⟩:=h.row;have hf:=Wq ws i hi
 have hl:∀j,j<3->aU[i*3+j]?=(ws.flatMap aY)[i*3+j]?:=by
  intro j hj;rw [<-hc,List.getElem?_take,if_pos (by omega)];simp
 rw [ae hb,ae hb,ae hb];exact⟨(hl 0 (by omega)).trans hf.1,(hl 1 (by omega)).trans hf.2.1,(hl 2 (by omega)).trans hf.2.2⟩
theorem lT.keep(h:lT g ws w)(hk:w'.heap[g]?=w.heap[g]?):lT g ws w':=by
 obtain⟨aU,hb,hc⟩:=h.row;exact⟨⟨aU,hk.trans hb,hc⟩,h.small⟩
def qm(x:qH)(s:List UInt8):Bool:=((x.aeh==107)||(x.aeh==115))&&(x.aX==s)
theorem zF(g cap:Nat)(ws:List qH)(i:Nat)(hi:i<ws.length)(s:List UInt8)(w:World)(h:lT g ws w):
  Calls prog 265 #[.slice (some ⟨g,0,none⟩) ws.length cap,.int .i64 i,.string ⟨s.toArray⟩] w λe w'=>e=.returned (.bool (qm ws[i] s))/\w'=w:=by
 obtain⟨c0,c1,c2⟩:=h.word i hi;have hsm:=h.small;clear h;generalize ws[i]=x at*
 rcases h1:((x.aeh:Int)==107)with _|_<;>rcases h2:((x.aeh:Int)==115)with _|_<;>rcases h3:(x.aX==s)with _|_
 all_goals
  have HV:=aa (show qm x s=_ by
   have e1:(x.aeh==107)=((x.aeh:Int)==107):=by rw [Bool.eq_iff_iff];simp;omega
   have e2:(x.aeh==115)=((x.aeh:Int)==115):=by rw [Bool.eq_iff_iff];simp;omega
   simp only [qm,e1,e2,h1,h2,h3,Bool.or_self,Bool.or_true,Bool.true_or,Bool.or_false,Bool.false_or,Bool.and_true,Bool.and_false,Bool.true_and,Bool.false_and];rfl)
  go_enter func265,ntmps265
  go_wp2;go_ret;exact⟨bD HV.o.symm,rfl⟩
structure Rp where
 rb:Nat
 g:Nat
 cap:Nat
variable{P:Rp}
structure Rg (P:Rp) (ws:List qH) (i:Nat) (bad:Bool) (w:World):Prop where
 blk:w.heap[P.rb]?=some (.cells #[.slice (some ⟨P.g,0,none⟩) ws.length P.cap,.int .i64 i,.bool bad] 328 (0,0))
 row:lT P.g ws w
 ne:P.g≠P.rb
 lt:i<ws.length
 last:∀h:ws.length-1<ws.length,ws[ws.length-1].aeh=101
theorem J1(h:Rg P ws i bad w){s:List UInt8}(hs:qm (ws[i]'h.lt) s=true):i+1<ws.length:=by
 rcases Nat.lt_or_ge (i+1) ws.length with h'|h'
 ·exact h'
 have hl:=h.last (by have:=h.lt;omega)
 have e:ws.length-1=i:=by have:=h.lt;omega
 simp only [e]at hl;simp [qm,hl]at hs
theorem Rg.but{i':Nat}{Sz:Bool}(h:Rg P ws i bad w)(hb:eh P.rb w w')(hk:w'.heap[P.rb]?=some (.cells #[.slice (some ⟨P.g,0,none⟩) ws.length P.cap,.int .i64 i',.bool Sz] 328 (0,0)))(hi:i'<ws.length):Rg P ws i' Sz w':=
 ⟨hk,h.row.keep (by obtain⟨c,hc,_⟩:=h.row.row;exact hb.block _ (af hc) h.ne),h.ne,hi,h.last⟩
def vh(ws:List qH)(i:Nat)(bad:Bool)(s:List UInt8):Bool:= !bad&&qm (ws.getD i ⟨0,[],0⟩) s
def nr(ws:List qH)(i:Nat)(bad:Bool)(s:List UInt8):Nat:=if vh ws i bad s then i+1 else i
theorem getD_eq(h:i<ws.length):ws.getD i ⟨0,[],0⟩=ws[i]:=by simp [List.getD,List.getElem?_eq_getElem h]
theorem Rg.drew(h:Rg P ws i bad w):Rg P ws i bad w.drew:=h.but ((eh.refl _ _).drew) h.blk h.lt
theorem J2(P:Rp)(ws:List qH)(i:Nat)(bad:Bool)(w:World)(h:Rg P ws i bad w)(s:List UInt8):
  Calls prog 234 #[.pointer (some ⟨P.rb,0,none⟩),.string ⟨s.toArray⟩] w λe w'=>
   e=.returned (.bool (vh ws i bad s))/\eh P.rb w w'/\Rg P ws (nr ws i bad s) bad w':=by
 have h1:=af h.blk;have hlt:=h.lt;have hsm:=h.row.small;have f0:=ae h.blk 0;have f1:=ae h.blk 1;have f2:=ae h.blk 2;have ff:=aj h.blk;simp at f0 f1 f2;have HR:=aa h;have HM:=aa (show vh ws i bad s=(!bad&&qm ws[i] s) by rw [vh,getD_eq hlt]);have kY:=aa (show nr ws i bad s=if(!bad&&qm ws[i] s)then i+1 else i by rw [nr,HM.o]);have HI:=aa (λw' (hr:lT P.g ws w')=>zF P.g P.cap ws i hlt s w' hr);have HL:=aa (λhs:qm ws[i] s=true=>J1 h hs);clear h;generalize qm ws[i] s=b at*
 rcases bad with _|_<;>rcases b with _|_
 all_goals
  go_enter func234,ntmps234
  go_wp2
  go_region_with (go_at_call 265;refine(HI.o _ (by first|exact HR.o.drew.row|exact HR.o.row)).mono ?_;rintro e w' ⟨rfl,rfl⟩)
  all_goals
   go_wp2;go_ret;rw [HM.o,kY.o]
   first
    |exact⟨rfl,(eh.refl _ _).drew,HR.o.drew⟩
    |exact⟨rfl,((eh.refl _ _).setCell (p:=⟨P.rb,1,none⟩) (Or.inl rfl) _).drew,HR.o.but (((eh.refl _ _).setCell (p:=⟨P.rb,1,none⟩) (Or.inl rfl) _).drew) (ax HR.o.blk 1 _) (HL.o (by first|rfl|trivial))⟩
theorem BI(P:Rp)(ws:List qH)(i:Nat)(bad:Bool)(w:World)(h:Rg P ws i bad w)(s:List UInt8):
  Calls prog 236 #[.pointer (some ⟨P.rb,0,none⟩),.string ⟨s.toArray⟩] w λe w'=>
   e=.returned (.tuple #[])/\eh P.rb w w'/\Rg P ws (nr ws i bad s) (!vh ws i bad s) w':=by
 have h1:=af h.blk;have hlt:=h.lt;have hsm:=h.row.small;have f0:=ae h.blk 0;have f1:=ae h.blk 1;have f2:=ae h.blk 2;have ff:=aj h.blk;simp at f0 f1 f2;have HR:=aa h;have HM:=aa (show vh ws i bad s=(!bad&&qm ws[i] s) by rw [vh,getD_eq hlt]);have kY:=aa (show nr ws i bad s=if(!bad&&qm ws[i] s)then i+1 else i by rw [nr,HM.o]);have HI:=aa (λw' (hr:lT P.g ws w')=>zF P.g P.cap ws i hlt s w' hr);have HL:=aa (λhs:qm ws[i] s=true=>J1 h hs);clear h;generalize qm ws[i] s=b at*
 rcases bad with _|_<;>rcases b with _|_
 all_goals
  go_enter func236,ntmps236
  go_wp2
  go_region_with (go_at_call 265;refine(HI.o _ (by first|exact HR.o.drew.row|exact HR.o.row)).mono ?_;rintro e w' ⟨rfl,rfl⟩)
  all_goals
   go_wp2
   ((try simp only [Exit.inBlock,Exit.then]);first|refine bodyPost_end (results_none rfl _ _ _) rfl ?_|refine bodyPost_ret (results_none rfl _ _ _) rfl ?_)
   rw [HM.o,kY.o]
   first
    |exact⟨rfl,((eh.refl _ _).setCell (p:=⟨P.rb,2,none⟩) (Or.inl rfl) _).drew,HR.o.but (((eh.refl _ _).setCell (p:=⟨P.rb,2,none⟩) (Or.inl rfl) _).drew) (ax HR.o.blk 2 _) HR.o.lt⟩
    |exact⟨rfl,((eh.refl _ _).setCell (p:=⟨P.rb,1,none⟩) (Or.inl rfl) _).drew,HR.o.but (((eh.refl _ _).setCell (p:=⟨P.rb,1,none⟩) (Or.inl rfl) _).drew) (ax HR.o.blk 1 _) (HL.o (by first|rfl|trivial))⟩
def r7(ws:List qH)(i:Nat)(bad:Bool)(k:Nat):Bool:= !bad&&((ws.getD i ⟨0,[],0⟩).aeh==k)
def oF(x:qH):Value:=.agg #[.int .u8 x.aeh,.string ⟨x.aX.toArray⟩,.int .i64 x.ai]
theorem fM(h:Rg P ws i bad w)(hk:k≠101)(hs:(ws[i]'h.lt).aeh=k):i+1<ws.length:=by
 rcases Nat.lt_or_ge (i+1) ws.length with h'|h'
 ·exact h'
 have hl:=h.last (by have:=h.lt;omega)
 have e:ws.length-1=i:=by have:=h.lt;omega
 simp only [e]at hl;omega
theorem eh.OY{pb:Nat}(h:eh pb w w')(o1 o2:Obj):eh pb w (((w'.alloc o1).alloc o2).drew):=
 (h.trans (eh.aW (((Below.refl _ w').alloc (Nat.le_refl _) o1).alloc (by simp) o2))).drew
theorem Rg.abQ(h:Rg P ws i bad w)(o1 o2:Obj):eh P.rb w ((((w.setCell ⟨P.rb,2,none⟩ (.bool true)).alloc o1).alloc o2).drew)/\Rg P ws i true ((((w.setCell ⟨P.rb,2,none⟩ (.bool true)).alloc o1).alloc o2).drew):=by
 have hb:=((eh.refl P.rb w).setCell (p:=⟨P.rb,2,none⟩) (Or.inl rfl) (.bool true)).OY o1 o2;exact⟨hb,h.but hb (aI (aI (ax h.blk 2 _) _) _) h.lt⟩
theorem Rg.abR{i:Nat}(h:Rg P ws i false w)(hi:i+1<ws.length)(o1 o2:Obj):eh P.rb w ((((w.setCell ⟨P.rb,1,none⟩ (.int .i64 ((i:Int)+1))).alloc o1).alloc o2).drew)/\Rg P ws (i+1) false ((((w.setCell ⟨P.rb,1,none⟩ (.int .i64 ((i:Int)+1))).alloc o1).alloc o2).drew):=by
 have hb:=((eh.refl P.rb w).setCell (p:=⟨P.rb,1,none⟩) (Or.inl rfl) (.int .i64 ((i:Int)+1))).OY o1 o2;exact⟨hb,h.but hb (aI (aI (ax h.blk 1 _) _) _) hi⟩
theorem Lv(P:Rp)(ws:List qH)(i:Nat)(bad:Bool)(w:World)(h:Rg P ws i bad w)(k:Nat)(hk:k≠101)(hk2:k<256):
  Calls prog 235 #[.pointer (some ⟨P.rb,0,none⟩),.int .u8 k] w λe w'=>
   e=.returned (oF (ws.getD i ⟨0,[],0⟩))/\eh P.rb w w'/\Rg P ws (if r7 ws i bad k then i+1 else i) (!r7 ws i bad k) w':=by
 have h1:=af h.blk;have hlt:=h.lt;have hsm:=h.row.small;have f0:=ae h.blk 0;have f1:=ae h.blk 1;have f2:=ae h.blk 2;have ff:=aj h.blk;simp at f0 f1 f2;obtain⟨c0,c1,c2⟩:=h.row.word i hlt;have HR:=aa h;have HM:=aa (show r7 ws i bad k=(!bad&&(ws[i].aeh==k)) by rw [r7,getD_eq hlt]);have HG:=aa (show ws.getD i ⟨0,[],0⟩=ws[i]from getD_eq hlt);have HL:=aa (λhs:ws[i].aeh=k=>fM h hk hs)
 have eP:P.g<w.heap.size:=by obtain⟨c,hc,_⟩:=h.row.row;exact af hc
 have hng:=h.ne;clear h;generalize ws[i]=x at*
 obtain⟨tq,S0⟩:∃tq,tq=if r7 ws i bad k then i+1 else i:=⟨_,rfl⟩
 obtain⟨bd,sG⟩:∃bd,bd= !r7 ws i bad k:=⟨_,rfl⟩;rw [<-S0,<-sG];have kY:=aa S0;have pZ:=aa sG;clear S0 sG
 rcases hb:(x.aeh==k)with _|_<;>rcases bad with _|_
 all_goals
  have e1:((x.aeh:Int) !=(k:Int))= !(x.aeh==k):=by rw [Bool.eq_iff_iff];simp;omega
  rw [hb]at e1;simp only [Bool.not_true,Bool.not_false]at e1
  have n1:¬P.rb=w.heap.size:=by omega
  have n2:¬P.g=w.heap.size:=by omega
  go_enter func235,ntmps235
  go_wp2
  go_region
  all_goals
   go_wp2;have e2:=kY.o;have e3:=pZ.o;rw [HM.o,hb]at e2 e3;simp at e2 e3;subst e2 e3;refine bodyPost_ret (v:=oF x) (by simp [results,results235,go_sem,oF]) rfl ⟨by rw [<-HG.o],?_⟩
   first
    |exact HR.o.abQ _ _
    |exact HR.o.abR (HL.o (by simpa using hb)) _ _
theorem OZ(P:Rp)(ws:List qH)(i:Nat)(bad:Bool)(w:World)(h:Rg P ws i bad w):
  Calls prog 237 #[.pointer (some ⟨P.rb,0,none⟩)] w λe w'=>
   if vh ws i bad [98,111,111,108]then e=.returned (.int .u8 98)/\eh P.rb w w'/\Rg P ws (i+1) bad w' else e=.returned (.int .u8 105)/\eh P.rb w w'/\Rg P ws (nr ws i bad [105,110,116]) (!vh ws i bad [105,110,116]) w':=by
 have HM:=aa (J2 P ws i bad w h [98,111,111,108]);have HMu:=aa (λw' h'=>BI P ws i bad w' h' [105,110,116]);clear h
 rcases hb:vh ws i bad [98,111,111,108]with _|_
 ·have kY:=aa (show nr ws i bad [98,111,111,108]=i by simp [nr,hb])
  rw [hb]at HM
  go_enter func237,ntmps237
  go_wp2_with fail
  refine HM.o.mono ?_;rintro e w1 ⟨rfl,hb1,h1⟩;rw [kY.o]at h1;have eC:=aa hb1;have H1:=aa h1;clear hb1 h1
  go_wp2_with fail
  refine(HMu.o _ H1.o).mono ?_;rintro e w2 ⟨rfl,hb2,h2⟩;have cU:=aa (eC.o.trans hb2);have H2:=aa h2;clear hb2 h2;go_wp2;go_ret;exact⟨rfl,cU.o,H2.o⟩
 have kY:=aa (show nr ws i bad [98,111,111,108]=i+1 by simp [nr,hb]);rw [hb]at HM
 go_enter func237,ntmps237
 go_wp2_with fail
 refine HM.o.mono ?_;rintro e w1 ⟨rfl,hb1,h1⟩;rw [kY.o]at h1;have eC:=aa hb1;have H1:=aa h1;clear hb1 h1;go_wp2;go_ret;exact⟨rfl,eC.o,H1.o⟩
def dV(x:Wd):qH:=⟨if x.aL=0 then 101 else if x.aL=2 then 110 else if x.aL=3 then 100 else if x.aL=4 then(match x.aX with|c::_=>if bP (c.toNat:Int)then 107 else 115| []=>115)else 98,x.aX,x.ai⟩
theorem O_(x:Wd)(s:List UInt8):qm (dV x) s=(x.aL==4&&x.aX==s):=by
 unfold qm dV
 by_cases h0:x.aL=0
 ·simp [h0]
 by_cases h2:x.aL=2
 ·simp [h2]
 by_cases h3:x.aL=3
 ·simp [h3]
 by_cases h4:x.aL=4
 ·simp only [h4]
  rcases x.aX with _|⟨c,t⟩
  ·simp
  ·simp only
   by_cases hc:bP (c.toNat:Int)=true<;>simp [hc]
 simp [h0,h2,h3,h4]
theorem Fa(x:Wd):((dV x).aeh==110)=(x.aL==2):=by
 unfold dV
 by_cases h0:x.aL=0
 ·simp [h0]
 by_cases h2:x.aL=2
 ·simp [h2]
 by_cases h3:x.aL=3
 ·simp [h3]
 by_cases h4:x.aL=4
 ·simp only [h4]
  rcases x.aX with _|⟨c,t⟩
  ·simp
  ·simp only
   by_cases hc:bP (c.toNat:Int)=true<;>simp [hc]
 simp [h0,h2,h3,h4]
theorem vp(x:Wd):((dV x).aeh==100)=(x.aL==3):=by
 unfold dV
 by_cases h0:x.aL=0
 ·simp [h0]
 by_cases h2:x.aL=2
 ·simp [h2]
 by_cases h3:x.aL=3
 ·simp [h3]
 by_cases h4:x.aL=4
 ·simp only [h4]
  rcases x.aX with _|⟨c,t⟩
  ·simp
  ·simp only
   by_cases hc:bP (c.toNat:Int)=true<;>simp [hc]
 simp [h0,h2,h3,h4]
theorem J3(x:Wd):((dV x).aeh==101)=(x.aL==0):=by
 unfold dV
 by_cases h0:x.aL=0
 ·simp [h0]
 by_cases h2:x.aL=2
 ·simp [h2]
 by_cases h3:x.aL=3
 ·simp [h3]
 by_cases h4:x.aL=4
 ·simp only [h4]
  rcases x.aX with _|⟨c,t⟩
  ·simp
  ·simp only
   by_cases hc:bP (c.toNat:Int)=true<;>simp [hc]
 simp [h0,h2,h3,h4]
abbrev cG(ws:List Wd):Prop:=∀s:PS,s.i+1=ws.length->(s.aU ws).aL=0
structure Rl (ws:List Wd) (st:PS) (i:Nat) (bad:Bool):Prop where
 lt:i<ws.length
 ok:bad=false->st.i=i/\st.aH=false
 no:bad=true->st=⟨ws.length-1,true,(ws.getD i ⟨0,[],0⟩).ai⟩
section
variable {ws:List Wd} {st:PS} {i:Nat} {bad:Bool}
theorem Rl.BJ(h:Rl ws st i bad):st.aH=bad:=by
 cases bad with
 |false=>exact(h.ok rfl).2
 |true=>rw [h.no rfl]
theorem Rl.end_(h:Rl ws st i true)(hl:cG ws):(st.aU ws).aL=0:=hl st (by rw [h.no rfl];have:=h.lt;show ws.length-1+1=_;omega)
theorem Rl.aN(h:Rl ws st i bad)(hl:cG ws)(s:List UInt8):vh (ws.map dV) i bad s=st.aN ws [s]:=by
 have hlt:=h.lt;unfold vh PS.aN
 cases bad with
 |true=>rw [h.end_ hl];simp
 |false=>
  have e:st.aU ws=ws[i]:=by unfold PS.aU;rw [(h.ok rfl).1];simp [List.getD,hlt]
  have e2:(ws.map dV).getD i ⟨0,[],0⟩=dV ws[i]:=by simp [List.getD,hlt]
  rw [e,e2,O_];rw [Bool.eq_iff_iff];simp
theorem Rl.next(h:Rl ws st i false)(hi:i+1<ws.length):Rl ws (st.next ws) (i+1) false:=
 ⟨hi,λ_=>⟨by unfold PS.next;rw [(h.ok rfl).1];show min (i+1) (ws.length-1)=i+1;omega,(h.ok rfl).2⟩,λe=>by cases e⟩
theorem Rl.fail(h:Rl ws st i bad):Rl ws (st.fail ws) i true:=by
 refine⟨h.lt,(λe=>by cases e),λ_=> ?_⟩;unfold PS.fail
 cases bad with
 |true=>rw [h.no rfl];rfl
 |false=>rw [(h.ok rfl).2];simp [PS.aU,(h.ok rfl).1]
theorem Rl.O'(h:Rl ws st i bad)(hl:cG ws){l:List (List UInt8)}(ha:st.aN ws l=true):bad=false/\i+1<ws.length:=by
 cases bad with
 |true=>have:=h.end_ hl;simp [PS.aN,this]at ha
 |false=>
  refine⟨rfl,?_⟩;have:=PS.bX hl ha (by rw [(h.ok rfl).1];exact h.lt);rw [(h.ok rfl).1]at this;exact this
theorem Rl.may(h:Rl ws st i bad)(hl:cG ws)(s:List UInt8):Rl ws (st.a_ ws s) (nr (ws.map dV) i bad s) bad:=by
 unfold nr PS.a_;rw [h.aN hl s]
 rcases ha:st.aN ws [s]with _|_
 ·simpa using h
 obtain⟨rfl,hi⟩:=h.O' hl ha;simpa using h.next hi
theorem Rl.must(h:Rl ws st i bad)(hl:cG ws)(s:List UInt8):Rl ws (st.au ws s) (nr (ws.map dV) i bad s) (!vh (ws.map dV) i bad s):=by
 unfold nr PS.au;rw [h.aN hl s]
 rcases ha:st.aN ws [s]with _|_
 ·simpa using h.fail
 obtain⟨rfl,hi⟩:=h.O' hl ha;simpa using h.next hi
theorem Rl.ag(h:Rl ws st i bad)(hl:cG ws):Rl ws (st.bH ws) (if r7 (ws.map dV) i bad 110 then i+1 else i) (!r7 (ws.map dV) i bad 110)/\r7 (ws.map dV) i bad 110=decide ((st.aU ws).aL=2):=by
 have hlt:=h.lt
 have e:r7 (ws.map dV) i bad 110=decide ((st.aU ws).aL=2):=by
  unfold r7
  cases bad with
  |true=>rw [h.end_ hl];simp
  |false=>
   have e:st.aU ws=ws[i]:=by unfold PS.aU;rw [(h.ok rfl).1];simp [List.getD,hlt]
   have e2:(ws.map dV).getD i ⟨0,[],0⟩=dV ws[i]:=by simp [List.getD,hlt]
   rw [e,e2,Fa];rw [Bool.eq_iff_iff];simp
 refine⟨?_,e⟩;rw [e];unfold PS.bH
 by_cases hk:(st.aU ws).aL=2
 ·have hb:bad=false:=by
   cases bad with
   |true=>have:=h.end_ hl;omega
   |false=>rfl
  subst hb;have hi:=PS.fM hl (s:=st) (by omega) (by rw [(h.ok rfl).1];exact hlt);rw [(h.ok rfl).1]at hi;simpa [hk]using h.next hi
 simpa [hk]using h.fail
end
def Sd(ws:List Wd)(P:Rp)(st:PS)(w:World):Prop:=∃i bad,Rg P (ws.map dV) i bad w/\Rl ws st i bad
section
variable {ws:List Wd} {P:Rp} {st:PS} {w:World}
theorem Sd.lt(h:Sd ws P st w):P.rb<w.heap.size/\st.i<ws.length:=by
 obtain⟨i,bad,hg,hr⟩:=h;refine⟨af hg.blk,?_⟩
 cases bad with
 |false=>rw [(hr.ok rfl).1];exact hr.lt
 |true=>rw [hr.no rfl];have:=hr.lt;show ws.length-1<_;omega
theorem bL(h:Sd ws P st w)(hl:cG ws)(s:List UInt8):
  Calls prog 234 #[.pointer (some ⟨P.rb,0,none⟩),.string ⟨s.toArray⟩] w λe w'=>e=.returned (.bool (st.aN ws [s]))/\eh P.rb w w'/\Sd ws P (st.a_ ws s) w':=by
 obtain⟨i,bad,hg,hr⟩:=h;refine(J2 P (ws.map dV) i bad w hg s).mono ?_;rintro e w' ⟨rfl,hb,h'⟩;exact⟨by rw [hr.aN hl s],hb,_,_,h',hr.may hl s⟩
theorem gX(h:Sd ws P st w)(hl:cG ws)(s:List UInt8):
  Calls prog 236 #[.pointer (some ⟨P.rb,0,none⟩),.string ⟨s.toArray⟩] w λe w'=>e=.returned (.tuple #[])/\eh P.rb w w'/\Sd ws P (st.au ws s) w':=by
 obtain⟨i,bad,hg,hr⟩:=h;refine(BI P (ws.map dV) i bad w hg s).mono ?_;rintro e w' ⟨rfl,hb,h'⟩;exact⟨rfl,hb,_,_,h',hr.must hl s⟩
theorem sg(h:Sd ws P st w)(hl:cG ws):
  Calls prog 235 #[.pointer (some ⟨P.rb,0,none⟩),.int .u8 110] w λe w'=>∃y:qH,e=.returned (oF y)/\((st.aU ws).aL=2->y=dV (st.aU ws))/\eh P.rb w w'/\Sd ws P (st.bH ws) w':=by
 obtain⟨i,bad,hg,hr⟩:=h;refine(Lv P (ws.map dV) i bad w hg 110 (by omega) (by omega)).mono ?_;rintro e w' ⟨rfl,hb,h'⟩;refine⟨_,rfl,λhk=> ?_,hb,_,_,h',(hr.ag hl).1⟩
 cases bad with
 |true=>have:=hr.end_ hl;omega
 |false=>
  have hlt:=hr.lt;rw [show st.aU ws=ws[i] by unfold PS.aU;rw [(hr.ok rfl).1];simp [List.getD,hlt]];simp [List.getD,hlt]
def Goes(ws:List Wd)(P:Rp)(m:Nat)(Yr:Int)(R:PS->Ex×PS):Prop:=
 ∀st w,Sd ws P st w->st.rem ws<m->Calls prog 238 #[.pointer (some ⟨P.rb,0,none⟩),.int .i64 Yr] w λe w'=>e=.returned (.tuple #[])/\eh P.rb w w'/\Sd ws P (R st).2 w'/\st.i<=(R st).2.i
def oa(ws:List Wd)(R:PS->Ex×PS):Prop:=∀pl,(R ⟨ws.length-1,true,pl⟩).2=⟨ws.length-1,true,pl⟩
theorem iA(hl:cG ws)(h0:0<ws.length)(pl:Nat)(l:List (List UInt8)):(⟨ws.length-1,true,pl⟩:PS).aN ws l=false:=by
 have:=hl ⟨ws.length-1,true,pl⟩ (by show ws.length-1+1=_;omega);simp [PS.aN,this]
theorem nt(hl:cG ws)(h0:0<ws.length)(h:oa ws R)(iB:List (List UInt8)):oa ws (cL ws R iB):=λpl=>by
 unfold cL;rw [h pl];obtain⟨n,e⟩:∃n,ws.length=n+1:=⟨ws.length-1,by omega⟩;rw [e];unfold dh;have:=iA hl h0 pl iB;rw [e]at this;rw [this]
 rfl
theorem r8(hl:cG ws)(h0:0<ws.length)(ex fa:PS->Ex×PS):oa ws (bI ws ex fa):=λpl=>by
 have hk:=hl ⟨ws.length-1,true,pl⟩ (by show ws.length-1+1=_;omega);unfold bI;rw [if_neg (by omega),if_neg (by omega),iA hl h0,iA hl h0,iA hl h0,iA hl h0]
 rfl
theorem BK(hl:cG ws)(h0:0<ws.length)(ex:PS->Ex×PS)(h:oa ws fa):oa ws (jN ws ex fa):=λpl=>by
 have hs:oa ws (xE ws fa):=nt hl h0 (nt hl h0 h _) _;unfold jN;rw [iA hl h0,iA hl h0];simp only [Bool.false_eq_true,if_false];unfold iP;rw [hs pl,iA hl h0];simp only [Bool.false_eq_true,if_false];exact hs pl
theorem vq(R:PS->Ex×PS)(iB:List (List UInt8))(n:Nat)(l:Ex)(st:PS)(h:st.aN ws iB=true):∃l',dh ws R iB (n+1) l st=dh ws R iB n l' (R (st.next ws)).2:=⟨_,by rw [dh,h];rfl⟩
theorem pB(R:PS->Ex×PS)(iB:List (List UInt8))(n:Nat)(l:Ex)(st:PS)(h:st.aN ws iB=false):dh ws R iB n l st=(l,st):=by
 cases n with
 |zero=>rfl
 |succ n=>rw [dh,h];simp
theorem cY(st:PS)(a b:List UInt8):st.aN ws [a,b]=(st.aN ws [a]||st.aN ws [b]):=by
 unfold PS.aN;rw [Bool.eq_iff_iff];simp
 constructor
 ·rintro⟨h,h'|h'⟩<;>simp [h,h']
 rintro(⟨h,h'⟩|⟨h,h'⟩)<;>simp [h,h']
theorem eA(st:PS)(a:List UInt8)(h:st.aN ws [a]=true):st.a_ ws a=st.next ws:=by unfold PS.a_;rw [h];rfl
theorem bF(st:PS)(a:List UInt8)(h:st.aN ws [a]=false):st.a_ ws a=st:=by unfold PS.a_;rw [h];rfl
end
theorem Fb{ws:List Wd}(hF:Goes ws P m 3 R)(hS:oa ws R)(hl:cG ws):Goes ws P m 2 (cL ws R [[42],[47]]):=by
 intro st w hs hm;have hlt:=hs.lt;have HS:=aa hs;have HR:=aa hF;have HL:=aa hl;have oD:=aa (nt hl (by omega) hS [[42],[47]]);obtain⟨i,bad,hg,hr⟩:=hs;have f2:=ae hg.blk 2;have fl:=af hg.blk;simp at f2;have AP:=aa hr;clear hg hr hF hl hS
 rcases bad with _|_
 ·clear AP
  go_enter func238,ntmps238
  go_wp2_with fail
  refine(HR.o st _ HS.o hm).mono ?_;rintro e w1 ⟨rfl,hb1,hs1,dG⟩;have eC:=aa hb1;have ky:=aa hs1;have yv:=aa dG;clear hb1 hs1 dG f2;go_wp2
  go_loopg [33] ws.length (λn _ wr=>∃(l:Ex) (s:PS),Hy (cL ws R [[42],[47]] st=dh ws R [[42],[47]] n l s)/\s.rem ws<n/\Hy (eh P.rb w wr)/\Hy (Sd ws P s wr)/\st.i<=s.i)
  case atStart=>exact⟨(R st).1,(R st).2,rfl,by have:=ky.o.lt;simp only [PS.rem];omega,eC,ky,yv.o⟩
  case round=>
   obtain⟨l,s,HC,jh,HB,S1,dG⟩:=hrel;have Dv:=S1.o.lt
   rcases ha:s.aN ws [[42]]with _|_
   ·rcases hb:s.aN ws [[47]]with _|_
    ·have HF:=aa (show cL ws R [[42],[47]] st=(l,s) by rw [HC.o];exact pB _ _ _ _ _ (by rw [cY,ha,hb];rfl))
     have e1:=bF s [42] ha;have e2:=bF s [47] hb
     go_wp2_with fail
     refine(bL S1.o HL.o [42]).mono ?_;rintro e w2 ⟨rfl,hb2,hs2⟩;rw [ha];rw [e1]at hs2;have cU:=aa (HB.o.trans hb2);have kg:=aa hs2;clear hb2 hs2
     go_wp2_with fail
     refine(bL kg.o HL.o [47]).mono ?_;rintro e w3 ⟨rfl,hb3,hs3⟩;rw [hb];rw [e2]at hs3;have dy:=aa (cU.o.trans hb3);have nH:=aa hs3;clear hb3 hs3 e1 e2;go_wp2
     ((try simp only [Exit.inBlock,Exit.then]);first|refine bodyPost_end (results_none rfl _ _ _) rfl ?_|refine bodyPost_ret (results_none rfl _ _ _) rfl ?_)
     exact⟨rfl,dy.o,by rw [HF.o];exact nH.o,by rw [HF.o];exact dG⟩
    ·have e1:=bF s [42] ha
     have e2:=eA s [47] hb;have hi:=PS.bX HL.o hb Dv.2;have sX:=PS.dw hi;have gC:=PS.cj Dv.2
     have Ax:(s.next ws).rem ws<m:=by have:=PS.cH (ws:=ws) (st:=st) (st':=s) dG;omega
     have D8:=aa (show s.aN ws [[42],[47]]=true by rw [cY,ha,hb];rfl)
     go_wp2_with fail
     refine(bL S1.o HL.o [42]).mono ?_;rintro e w2 ⟨rfl,hb2,hs2⟩;rw [ha];rw [e1]at hs2;have cU:=aa (HB.o.trans hb2);have kg:=aa hs2;clear hb2 hs2
     go_wp2_with fail
     refine(bL kg.o HL.o [47]).mono ?_;rintro e w3 ⟨rfl,hb3,hs3⟩;rw [hb];rw [e2]at hs3;have dy:=aa (cU.o.trans hb3);have nH:=aa hs3;clear hb3 hs3 e1 e2
     go_wp2_with fail
     refine(HR.o (s.next ws) _ nH.o Ax).mono ?_;rintro e w4 ⟨rfl,hb4,mC,qN⟩;have iw:=aa (dy.o.trans hb4);have ri:=aa mC;have rV:=aa qN;clear hb4 mC qN;go_wp2
     go_roundg (gk-1)
     case measure=>omega
     case rel=>
      obtain⟨n,e⟩:∃n,gk=n+1:=⟨gk-1,by omega⟩;subst e;obtain⟨l',hc⟩:=vq R [[42],[47]] n l s D8.o;exact⟨l',_,aa (HC.o.trans hc),by have:=PS.cH (ws:=ws) rV.o;show PS.rem ws _<n;omega,iw,ri,Nat.le_trans dG (Nat.le_trans gC rV.o)⟩
   ·have e1:=eA s [42] ha
    have hi:=PS.bX HL.o ha Dv.2;have sX:=PS.dw hi;have gC:=PS.cj Dv.2
    have Ax:(s.next ws).rem ws<m:=by have:=PS.cH (ws:=ws) (st:=st) (st':=s) dG;omega
    have D8:=aa (show s.aN ws [[42],[47]]=true by rw [cY,ha];rfl)
    go_wp2_with fail
    refine(bL S1.o HL.o [42]).mono ?_;rintro e w2 ⟨rfl,hb2,hs2⟩;rw [ha];rw [e1]at hs2;have dy:=aa (HB.o.trans hb2);have nH:=aa hs2;clear hb2 hs2 e1
    go_wp2_with fail
    refine(HR.o (s.next ws) _ nH.o Ax).mono ?_;rintro e w4 ⟨rfl,hb4,mC,qN⟩;have iw:=aa (dy.o.trans hb4);have ri:=aa mC;have rV:=aa qN;clear hb4 mC qN;go_wp2
    go_roundg (gk-1)
    case measure=>omega
    case rel=>
     obtain⟨n,e⟩:∃n,gk=n+1:=⟨gk-1,by omega⟩;subst e;obtain⟨l',hc⟩:=vq R [[42],[47]] n l s D8.o;exact⟨l',_,aa (HC.o.trans hc),by have:=PS.cH (ws:=ws) rV.o;show PS.rem ws _<n;omega,iw,ri,Nat.le_trans dG (Nat.le_trans gC rV.o)⟩
 have HN:=aa (AP.o.no rfl);clear AP
 go_enter func238,ntmps238
 go_wp2
 ((try simp only [Exit.inBlock,Exit.then]);first|refine bodyPost_end (results_none rfl _ _ _) rfl ?_|refine bodyPost_ret (results_none rfl _ _ _) rfl ?_)
 have e:(cL ws R [[42],[47]] st).2=st:=by rw [HN.o];exact oD.o _
 exact⟨rfl,eh.refl _ _,by rw [e];exact HS.o,by rw [e];exact Nat.le_refl _⟩
theorem Fc{ws:List Wd}(hF:Goes ws P m 2 R)(hS:oa ws R)(hl:cG ws):Goes ws P m 1 (cL ws R [[43],[45]]):=by
 intro st w hs hm;have hlt:=hs.lt;have HS:=aa hs;have HR:=aa hF;have HL:=aa hl;have oD:=aa (nt hl (by omega) hS [[43],[45]]);obtain⟨i,bad,hg,hr⟩:=hs;have f2:=ae hg.blk 2;have fl:=af hg.blk;simp at f2;have AP:=aa hr;clear hg hr hF hl hS
 rcases bad with _|_
 ·clear AP
  go_enter func238,ntmps238
  go_wp2_with fail
  refine(HR.o st _ HS.o hm).mono ?_;rintro e w1 ⟨rfl,hb1,hs1,dG⟩;have eC:=aa hb1;have ky:=aa hs1;have yv:=aa dG;clear hb1 hs1 dG f2;go_wp2
  go_loopg [21] ws.length (λn _ wr=>∃(l:Ex) (s:PS),Hy (cL ws R [[43],[45]] st=dh ws R [[43],[45]] n l s)/\s.rem ws<n/\Hy (eh P.rb w wr)/\Hy (Sd ws P s wr)/\st.i<=s.i)
  case atStart=>exact⟨(R st).1,(R st).2,rfl,by have:=ky.o.lt;simp only [PS.rem];omega,eC,ky,yv.o⟩
  case round=>
   obtain⟨l,s,HC,jh,HB,S1,dG⟩:=hrel;have Dv:=S1.o.lt
   rcases ha:s.aN ws [[43]]with _|_
   ·rcases hb:s.aN ws [[45]]with _|_
    ·have HF:=aa (show cL ws R [[43],[45]] st=(l,s) by rw [HC.o];exact pB _ _ _ _ _ (by rw [cY,ha,hb];rfl))
     have e1:=bF s [43] ha;have e2:=bF s [45] hb
     go_wp2_with fail
     refine(bL S1.o HL.o [43]).mono ?_;rintro e w2 ⟨rfl,hb2,hs2⟩;rw [ha];rw [e1]at hs2;have cU:=aa (HB.o.trans hb2);have kg:=aa hs2;clear hb2 hs2
     go_wp2_with fail
     refine(bL kg.o HL.o [45]).mono ?_;rintro e w3 ⟨rfl,hb3,hs3⟩;rw [hb];rw [e2]at hs3;have dy:=aa (cU.o.trans hb3);have nH:=aa hs3;clear hb3 hs3 e1 e2;go_wp2
     ((try simp only [Exit.inBlock,Exit.then]);first|refine bodyPost_end (results_none rfl _ _ _) rfl ?_|refine bodyPost_ret (results_none rfl _ _ _) rfl ?_)
     exact⟨rfl,dy.o,by rw [HF.o];exact nH.o,by rw [HF.o];exact dG⟩
    ·have e1:=bF s [43] ha
     have e2:=eA s [45] hb;have hi:=PS.bX HL.o hb Dv.2;have sX:=PS.dw hi;have gC:=PS.cj Dv.2
     have Ax:(s.next ws).rem ws<m:=by have:=PS.cH (ws:=ws) (st:=st) (st':=s) dG;omega
     have D8:=aa (show s.aN ws [[43],[45]]=true by rw [cY,ha,hb];rfl)
     go_wp2_with fail
     refine(bL S1.o HL.o [43]).mono ?_;rintro e w2 ⟨rfl,hb2,hs2⟩;rw [ha];rw [e1]at hs2;have cU:=aa (HB.o.trans hb2);have kg:=aa hs2;clear hb2 hs2
     go_wp2_with fail
     refine(bL kg.o HL.o [45]).mono ?_;rintro e w3 ⟨rfl,hb3,hs3⟩;rw [hb];rw [e2]at hs3;have dy:=aa (cU.o.trans hb3);have nH:=aa hs3;clear hb3 hs3 e1 e2
     go_wp2_with fail
     refine(HR.o (s.next ws) _ nH.o Ax).mono ?_;rintro e w4 ⟨rfl,hb4,mC,qN⟩;have iw:=aa (dy.o.trans hb4);have ri:=aa mC;have rV:=aa qN;clear hb4 mC qN;go_wp2
     go_roundg (gk-1)
     case measure=>omega
     case rel=>
      obtain⟨n,e⟩:∃n,gk=n+1:=⟨gk-1,by omega⟩;subst e;obtain⟨l',hc⟩:=vq R [[43],[45]] n l s D8.o;exact⟨l',_,aa (HC.o.trans hc),by have:=PS.cH (ws:=ws) rV.o;show PS.rem ws _<n;omega,iw,ri,Nat.le_trans dG (Nat.le_trans gC rV.o)⟩
   ·have e1:=eA s [43] ha
    have hi:=PS.bX HL.o ha Dv.2;have sX:=PS.dw hi;have gC:=PS.cj Dv.2
    have Ax:(s.next ws).rem ws<m:=by have:=PS.cH (ws:=ws) (st:=st) (st':=s) dG;omega
    have D8:=aa (show s.aN ws [[43],[45]]=true by rw [cY,ha];rfl)
    go_wp2_with fail
    refine(bL S1.o HL.o [43]).mono ?_;rintro e w2 ⟨rfl,hb2,hs2⟩;rw [ha];rw [e1]at hs2;have dy:=aa (HB.o.trans hb2);have nH:=aa hs2;clear hb2 hs2 e1
    go_wp2_with fail
    refine(HR.o (s.next ws) _ nH.o Ax).mono ?_;rintro e w4 ⟨rfl,hb4,mC,qN⟩;have iw:=aa (dy.o.trans hb4);have ri:=aa mC;have rV:=aa qN;clear hb4 mC qN;go_wp2
    go_roundg (gk-1)
    case measure=>omega
    case rel=>
     obtain⟨n,e⟩:∃n,gk=n+1:=⟨gk-1,by omega⟩;subst e;obtain⟨l',hc⟩:=vq R [[43],[45]] n l s D8.o;exact⟨l',_,aa (HC.o.trans hc),by have:=PS.cH (ws:=ws) rV.o;show PS.rem ws _<n;omega,iw,ri,Nat.le_trans dG (Nat.le_trans gC rV.o)⟩
 have HN:=aa (AP.o.no rfl);clear AP
 go_enter func238,ntmps238
 go_wp2
 ((try simp only [Exit.inBlock,Exit.then]);first|refine bodyPost_end (results_none rfl _ _ _) rfl ?_|refine bodyPost_ret (results_none rfl _ _ _) rfl ?_)
 have e:(cL ws R [[43],[45]] st).2=st:=by rw [HN.o];exact oD.o _
 exact⟨rfl,eh.refl _ _,by rw [e];exact HS.o,by rw [e];exact Nat.le_refl _⟩
section
variable {ws:List Wd} {P:Rp} {st:PS} {w:World}
theorem Sd.open_(h:Sd ws P st w)(hf:st.aH=false):∃i,st.i=i/\Rg P (ws.map dV) i false w/\Rl ws st i false/\(ws.map dV)[i]?=some (dV (st.aU ws)):=by
 obtain⟨i,bad,hg,hr⟩:=h;have e:=hr.BJ;rw [hf]at e;subst e;have hlt:=hr.lt;refine⟨i,(hr.ok rfl).1,hg,hr,?_⟩;rw [List.getElem?_map,List.getElem?_eq_getElem hlt,show st.aU ws=ws[i] by unfold PS.aU;rw [(hr.ok rfl).1];simp [List.getD,hlt]]
 rfl
theorem Rg.step{i:Nat}(h:Rg P (ws.map dV) i false w)(hr:Rl ws st i false)(hi:i+1<ws.length):eh P.rb w (w.setCell ⟨P.rb,1,none⟩ (.int .i64 ((i:Int)+1)))/\Sd ws P (st.next ws) (w.setCell ⟨P.rb,1,none⟩ (.int .i64 ((i:Int)+1))):=by
 have hb:=(eh.refl P.rb w).setCell (p:=⟨P.rb,1,none⟩) (Or.inl rfl) (.int .i64 ((i:Int)+1));exact⟨hb,i+1,false,h.but hb (ax h.blk 1 _) (by rw [List.length_map];exact hi),hr.next hi⟩
theorem Sd.Db(h:Sd ws P st w)(hb:Below w.heap.size w w'):Sd ws P st w':=by
 obtain⟨i,bad,hg,hr⟩:=h;exact⟨i,bad,hg.but (eh.aW hb) ((hb.block _ (af hg.blk)).trans hg.blk) hg.lt,hr⟩
theorem Sd.drew'(h:Sd ws P st w):Sd ws P st w.drew:=h.Db ((Below.refl _ _).drew)
theorem kZ(hk:(st.aU ws).aL=k)(h4:k≠4):st.aN ws t=false:=by
 unfold PS.aN;rw [hk];simp [h4]
theorem jY(h:st.aN ws t=true):(st.aU ws).aL=4:=by
 unfold PS.aN at h;simp at h;exact h.1
theorem nu{a b:List UInt8}(h:st.aN ws [a]=true)(hne:a≠b):st.aN ws [b]=false:=by
 unfold PS.aN at*;simp at h;rw [h.1,h.2];simp [hne]
end
section
variable {ws:List Wd} {P:Rp} {n:Nat} {E F:PS->Ex×PS}
def J4(ws:List Wd)(P:Rp)(st:PS)(w:World)(s':PS):Prop:=Calls prog 267 #[.pointer (some ⟨P.rb,0,none⟩)] w λe w'=>e=.returned (.tuple #[])/\eh P.rb w w'/\Sd ws P s' w'
theorem Lz(hl:cG ws)(hs:Sd ws P st w)(h:st.aN ws [[116,114,117,101],[102,97,108,115,101]]=true):J4 ws P st w (st.next ws):=by
 have HS:=aa hs;have HL:=aa hl;have HB:=aa (eh.refl P.rb w);rw [cY]at h;clear hs hl;unfold J4
 rcases a1:st.aN ws [[116,114,117,101]]with _|_
 ·have a2:st.aN ws [[102,97,108,115,101]]=true:=by rw [a1]at h;simpa using h
  clear h
  go_enter func267,ntmps267
  go_wp2_with fail
  refine(bL HS.o HL.o [116,114,117,101]).mono ?_;rintro e wq ⟨rfl,dN,cR⟩;rw [a1];rw [bF st [116,114,117,101] a1]at cR;have eC:=aa (HB.o.trans dN);have ky:=aa cR;clear dN cR
  go_wp2_with fail
  refine(bL ky.o HL.o [102,97,108,115,101]).mono ?_;rintro e wq ⟨rfl,dN,cR⟩;rw [a2];rw [eA st [102,97,108,115,101] a2]at cR;have cU:=aa (eC.o.trans dN);have kg:=aa cR;clear dN cR;go_wp2
  ((try simp only [Exit.inBlock,Exit.then]);first|refine bodyPost_end (results_none rfl _ _ _) rfl ?_|refine bodyPost_ret (results_none rfl _ _ _) rfl ?_)
  exact⟨rfl,cU.o,kg.o⟩
 clear h
 go_enter func267,ntmps267
 go_wp2_with fail
 refine(bL HS.o HL.o [116,114,117,101]).mono ?_;rintro e wq ⟨rfl,dN,cR⟩;rw [a1];rw [eA st [116,114,117,101] a1]at cR;have cU:=aa (HB.o.trans dN);have kg:=aa cR;clear dN cR;go_wp2
 ((try simp only [Exit.inBlock,Exit.then]);first|refine bodyPost_end (results_none rfl _ _ _) rfl ?_|refine bodyPost_ret (results_none rfl _ _ _) rfl ?_)
 exact⟨rfl,cU.o,kg.o⟩
theorem Fe(hl:cG ws)(hF:Goes ws P n 3 F)(hs:Sd ws P st w)(hm:(st.next ws).rem ws<n)(h:st.aN ws [[45]]=true\/st.aN ws [[33]]=true):J4 ws P st w (F (st.next ws)).2:=by
 have HS:=aa hs;have HL:=aa hl;have HF:=aa hF;have HB:=aa (eh.refl P.rb w);clear hs hl hF;unfold J4
 have a1:st.aN ws [[116,114,117,101]]=false:=by rcases h with h|h<;>exact nu h (by decide)
 have a2:st.aN ws [[102,97,108,115,101]]=false:=by rcases h with h|h<;>exact nu h (by decide)
 rcases a3:st.aN ws [[45]]with _|_
 ·have a4:st.aN ws [[33]]=true:=by rw [a3]at h;simpa using h
  clear h
  go_enter func267,ntmps267
  go_wp2_with fail
  refine(bL HS.o HL.o [116,114,117,101]).mono ?_;rintro e wq ⟨rfl,dN,cR⟩;rw [a1];rw [bF st [116,114,117,101] a1]at cR;have eC:=aa (HB.o.trans dN);have ky:=aa cR;clear dN cR
  go_wp2_with fail
  refine(bL ky.o HL.o [102,97,108,115,101]).mono ?_;rintro e wq ⟨rfl,dN,cR⟩;rw [a2];rw [bF st [102,97,108,115,101] a2]at cR;have cU:=aa (eC.o.trans dN);have kg:=aa cR;clear dN cR
  go_wp2_with fail
  refine(bL kg.o HL.o [45]).mono ?_;rintro e wq ⟨rfl,dN,cR⟩;rw [a3];rw [bF st [45] a3]at cR;have dy:=aa (cU.o.trans dN);have nH:=aa cR;clear dN cR
  go_wp2_with fail
  refine(bL nH.o HL.o [33]).mono ?_;rintro e wq ⟨rfl,dN,cR⟩;rw [a4];rw [eA st [33] a4]at cR;have iw:=aa (dy.o.trans dN);have ri:=aa cR;clear dN cR
  go_wp2_with fail
  refine(HF.o (st.next ws) _ ri.o hm).mono ?_;rintro e w5 ⟨rfl,cZ,hs5,-⟩;have gT:=aa (iw.o.trans cZ);have sR:=aa hs5;clear cZ hs5;go_wp2
  ((try simp only [Exit.inBlock,Exit.then]);first|refine bodyPost_end (results_none rfl _ _ _) rfl ?_|refine bodyPost_ret (results_none rfl _ _ _) rfl ?_)
  exact⟨rfl,gT.o,sR.o⟩
 clear h
 go_enter func267,ntmps267
 go_wp2_with fail
 refine(bL HS.o HL.o [116,114,117,101]).mono ?_;rintro e wq ⟨rfl,dN,cR⟩;rw [a1];rw [bF st [116,114,117,101] a1]at cR;have eC:=aa (HB.o.trans dN);have ky:=aa cR;clear dN cR
 go_wp2_with fail
 refine(bL ky.o HL.o [102,97,108,115,101]).mono ?_;rintro e wq ⟨rfl,dN,cR⟩;rw [a2];rw [bF st [102,97,108,115,101] a2]at cR;have cU:=aa (eC.o.trans dN);have kg:=aa cR;clear dN cR
 go_wp2_with fail
 refine(bL kg.o HL.o [45]).mono ?_;rintro e wq ⟨rfl,dN,cR⟩;rw [a3];rw [eA st [45] a3]at cR;have iw:=aa (cU.o.trans dN);have ri:=aa cR;clear dN cR
 go_wp2_with fail
 refine(HF.o (st.next ws) _ ri.o hm).mono ?_;rintro e w5 ⟨rfl,cZ,hs5,-⟩;have gT:=aa (iw.o.trans cZ);have sR:=aa hs5;clear cZ hs5;go_wp2
 ((try simp only [Exit.inBlock,Exit.then]);first|refine bodyPost_end (results_none rfl _ _ _) rfl ?_|refine bodyPost_ret (results_none rfl _ _ _) rfl ?_)
 exact⟨rfl,gT.o,sR.o⟩
theorem Ff(hl:cG ws)(hE:Goes ws P n 0 E)(hs:Sd ws P st w)(hm:(st.next ws).rem ws<n)(h:st.aN ws [[40]]=true):J4 ws P st w ((E (st.next ws)).2.au ws [41]):=by
 have HS:=aa hs;have HL:=aa hl;have HE:=aa hE;have HB:=aa (eh.refl P.rb w);clear hs hl hE;unfold J4;have a1:st.aN ws [[116,114,117,101]]=false:=nu h (by decide);have a2:st.aN ws [[102,97,108,115,101]]=false:=nu h (by decide);have a3:st.aN ws [[45]]=false:=nu h (by decide);have a4:st.aN ws [[33]]=false:=nu h (by decide)
 go_enter func267,ntmps267
 go_wp2_with fail
 refine(bL HS.o HL.o [116,114,117,101]).mono ?_;rintro e wq ⟨rfl,dN,cR⟩;rw [a1];rw [bF st [116,114,117,101] a1]at cR;have eC:=aa (HB.o.trans dN);have ky:=aa cR;clear dN cR
 go_wp2_with fail
 refine(bL ky.o HL.o [102,97,108,115,101]).mono ?_;rintro e wq ⟨rfl,dN,cR⟩;rw [a2];rw [bF st [102,97,108,115,101] a2]at cR;have cU:=aa (eC.o.trans dN);have kg:=aa cR;clear dN cR
 go_wp2_with fail
 refine(bL kg.o HL.o [45]).mono ?_;rintro e wq ⟨rfl,dN,cR⟩;rw [a3];rw [bF st [45] a3]at cR;have dy:=aa (cU.o.trans dN);have nH:=aa cR;clear dN cR
 go_wp2_with fail
 refine(bL nH.o HL.o [33]).mono ?_;rintro e wq ⟨rfl,dN,cR⟩;rw [a4];rw [bF st [33] a4]at cR;have iw:=aa (dy.o.trans dN);have ri:=aa cR;clear dN cR
 go_wp2_with fail
 refine(bL ri.o HL.o [40]).mono ?_;rintro e wq ⟨rfl,dN,cR⟩;rw [h];rw [eA st [40] h]at cR;have gT:=aa (iw.o.trans dN);have sR:=aa cR;clear dN cR
 go_wp2_with fail
 refine(HE.o (st.next ws) _ sR.o hm).mono ?_;rintro e w6 ⟨rfl,kz,pK,-⟩;have fY:=aa (gT.o.trans kz);have xP:=aa pK;clear kz pK
 go_wp2_with fail
 refine(gX xP.o HL.o [41]).mono ?_;rintro e w7 ⟨rfl,rY,hs7⟩;have vM:=aa (fY.o.trans rY);have QK:=aa hs7;clear rY hs7;go_wp2
 ((try simp only [Exit.inBlock,Exit.then]);first|refine bodyPost_end (results_none rfl _ _ _) rfl ?_|refine bodyPost_ret (results_none rfl _ _ _) rfl ?_)
 exact⟨rfl,vM.o,QK.o⟩
end
theorem L0(h:x.aL=3):(dV x).aeh=100:=by unfold dV;simp [h]
theorem Fg(h:x.aL≠3):(((dV x).aeh:Int)==100)=false:=by
 have:=vp x;rw [show(x.aL==3)=false by simpa using h]at this;simp at this⊢;omega
section
variable {ws:List Wd} {P:Rp} {n:Nat} {E F:PS->Ex×PS}
theorem S2(hl:cG ws)(hs:Sd ws P st w)(hf:st.aH=false)(hk:(st.aU ws).aL=3):J4 ws P st w (st.next ws):=by
 have HS:=aa hs;have HL:=aa hl;have HB:=aa (eh.refl P.rb w);have hlt:=hs.lt;have HK:=aa hk;have km:=aa hf;clear hs hl;unfold J4;have a1:st.aN ws [[116,114,117,101]]=false:=kZ hk (by omega);have a2:st.aN ws [[102,97,108,115,101]]=false:=kZ hk (by omega);have a3:st.aN ws [[45]]=false:=kZ hk (by omega);have a4:st.aN ws [[33]]=false:=kZ hk (by omega);have a5:st.aN ws [[40]]=false:=kZ hk (by omega);clear hk hf
 go_enter func267,ntmps267
 go_wp2_with fail
 refine(bL HS.o HL.o [116,114,117,101]).mono ?_;rintro e wq ⟨rfl,dN,cR⟩;rw [a1];rw [bF st [116,114,117,101] a1]at cR;have eC:=aa (HB.o.trans dN);have ky:=aa cR;clear dN cR
 go_wp2_with fail
 refine(bL ky.o HL.o [102,97,108,115,101]).mono ?_;rintro e wq ⟨rfl,dN,cR⟩;rw [a2];rw [bF st [102,97,108,115,101] a2]at cR;have cU:=aa (eC.o.trans dN);have kg:=aa cR;clear dN cR
 go_wp2_with fail
 refine(bL kg.o HL.o [45]).mono ?_;rintro e wq ⟨rfl,dN,cR⟩;rw [a3];rw [bF st [45] a3]at cR;have dy:=aa (cU.o.trans dN);have nH:=aa cR;clear dN cR
 go_wp2_with fail
 refine(bL nH.o HL.o [33]).mono ?_;rintro e wq ⟨rfl,dN,cR⟩;rw [a4];rw [bF st [33] a4]at cR;have iw:=aa (dy.o.trans dN);have ri:=aa cR;clear dN cR
 go_wp2_with fail
 refine(bL ri.o HL.o [40]).mono ?_;rintro e wq ⟨rfl,dN,cR⟩;rw [a5];rw [bF st [40] a5]at cR;have gT:=aa (iw.o.trans dN);have sR:=aa cR;clear dN cR;clear HS ky kg nH ri HB eC cU dy iw a1 a2 a3 a4 a5;obtain⟨i,hi,hg,hr,hw⟩:=sR.o.open_ km.o;have f0:=ae hg.blk 0;have f1:=ae hg.blk 1;have f2:=ae hg.blk 2;have ff:=aj hg.blk;have fl:=af hg.blk;have zG:=hg.lt;have hsm:=hg.row.small;simp only [List.length_map]at zG hsm;simp at f0 f1 f2;have c0:=(hg.row.word i hg.lt).1;rw [(List.getElem?_eq_some_iff.1 hw).2,L0 HK.o]at c0;rw [show((100:Nat):Int)=100 from rfl]at c0;have HI:=aa (show i+1<ws.length by have:=PS.fM HL.o (s:=st) (by rw [HK.o];omega) hlt.2;omega);have HG:=aa hg;have HR:=aa hr;clear hw hi hg hr;go_wp2
 go_region
 go_wp2
 ((try simp only [Exit.inBlock,Exit.then]);first|refine bodyPost_end (results_none rfl _ _ _) rfl ?_|refine bodyPost_ret (results_none rfl _ _ _) rfl ?_)
 obtain⟨kz,pK⟩:=HG.o.step HR.o HI.o;exact⟨rfl,(gT.o.trans kz).drew,pK.drew'⟩
theorem Dc(hk:¬(st.aU ws).aL=2):st.bH ws=st.fail ws:=by unfold PS.bH;rw [if_neg hk]
theorem S3(hl:cG ws)(hs:Sd ws P st w)(hf:st.aH=false)(hk3:¬(st.aU ws).aL=3)(hk2:¬(st.aU ws).aL=2)(a1:st.aN ws [[116,114,117,101]]=false)(a2:st.aN ws [[102,97,108,115,101]]=false)(a3:st.aN ws [[45]]=false)(a4:st.aN ws [[33]]=false)(a5:st.aN ws [[40]]=false):J4 ws P st w (st.fail ws):=by
 have HS:=aa hs;have HL:=aa hl;have HB:=aa (eh.refl P.rb w);have hlt:=hs.lt;have km:=aa hf;have oZ:=aa (Dc hk2);have iy:=aa (Fg hk3);clear hs hl hf hk2 hk3;unfold J4
 go_enter func267,ntmps267
 go_wp2_with fail
 refine(bL HS.o HL.o [116,114,117,101]).mono ?_;rintro e wq ⟨rfl,dN,cR⟩;rw [a1];rw [bF st [116,114,117,101] a1]at cR;have eC:=aa (HB.o.trans dN);have ky:=aa cR;clear dN cR
 go_wp2_with fail
 refine(bL ky.o HL.o [102,97,108,115,101]).mono ?_;rintro e wq ⟨rfl,dN,cR⟩;rw [a2];rw [bF st [102,97,108,115,101] a2]at cR;have cU:=aa (eC.o.trans dN);have kg:=aa cR;clear dN cR
 go_wp2_with fail
 refine(bL kg.o HL.o [45]).mono ?_;rintro e wq ⟨rfl,dN,cR⟩;rw [a3];rw [bF st [45] a3]at cR;have dy:=aa (cU.o.trans dN);have nH:=aa cR;clear dN cR
 go_wp2_with fail
 refine(bL nH.o HL.o [33]).mono ?_;rintro e wq ⟨rfl,dN,cR⟩;rw [a4];rw [bF st [33] a4]at cR;have iw:=aa (dy.o.trans dN);have ri:=aa cR;clear dN cR
 go_wp2_with fail
 refine(bL ri.o HL.o [40]).mono ?_;rintro e wq ⟨rfl,dN,cR⟩;rw [a5];rw [bF st [40] a5]at cR;have gT:=aa (iw.o.trans dN);have sR:=aa cR;clear dN cR;clear HS ky kg nH ri HB eC cU dy iw a1 a2 a3 a4 a5;obtain⟨i,hi,hg,hr,hw⟩:=sR.o.open_ km.o;have f0:=ae hg.blk 0;have f1:=ae hg.blk 1;have f2:=ae hg.blk 2;have ff:=aj hg.blk;have fl:=af hg.blk;have zG:=hg.lt;have hsm:=hg.row.small;simp only [List.length_map]at zG hsm;simp at f0 f1 f2;have c0:=(hg.row.word i hg.lt).1;rw [(List.getElem?_eq_some_iff.1 hw).2]at c0;have c1:=iy.o;clear hw hi hg hr;go_wp2
 go_region
 go_wp2_with fail
 refine(sg (sR.o.drew') HL.o).mono ?_;rintro e w6 ⟨y,rfl,-,kz,pK⟩;rw [oZ.o]at pK;have fY:=aa (gT.o.drew.trans kz);have xP:=aa pK;clear kz pK f0 f1 f2 ff fl zG hsm c0 c1 sR gT iy;obtain⟨j,bad,hg,hr⟩:=xP.o;have e:=hr.BJ;have e2:(st.fail ws).aH=true:=rfl;rw [e2]at e;subst e;have f0:=ae hg.blk 0;have f1:=ae hg.blk 1;have f2:=ae hg.blk 2;have ff:=aj hg.blk;have fl:=af hg.blk;have zG:=hg.lt;have hsm:=hg.row.small;simp only [List.length_map]at zG hsm;simp at f0 f1 f2;have HI:=aa (λw' (hr:lT P.g (ws.map dV) w')=>zF P.g P.cap (ws.map dV) j hg.lt [40] w' hr);have HG:=aa hg;generalize qm ((ws.map dV)[j]'hg.lt) [40]=cb at*;clear hg hr e2;unfold oF;simp only [List.length_map]at HI;go_wp2
 go_region_with (go_at_call 265;refine(HI.o _ (by first|exact HG.o.drew.row|exact HG.o.row)).mono ?_;rintro e w' ⟨rfl,rfl⟩)
 all_goals
  go_wp2
  ((try simp only [Exit.inBlock,Exit.then]);first|refine bodyPost_end (results_none rfl _ _ _) rfl ?_|refine bodyPost_ret (results_none rfl _ _ _) rfl ?_)
  exact⟨rfl,fY.o.drew,xP.o.drew'⟩
end
section
variable {ws:List Wd} {P:Rp} {n:Nat} {E:PS->Ex×PS}
theorem S4(R:PS->Ex×PS)(n:Nat)(st:PS)(h:st.aN ws [[44]]=true):(dR ws R (n+1) st).2=(dR ws R n (R (st.next ws)).2).2:=by rw [dR,h];rfl
theorem Pa(R:PS->Ex×PS)(n:Nat)(st:PS)(h:st.aN ws [[44]]=false):(dR ws R n st).2=st:=by
 cases n with
 |zero=>rfl
 |succ n=>rw [dR,h];simp
theorem Rl.abS(h:Rl ws st i false)(hl:cG ws)(hi:i<(ws.map dV).length)(s:List UInt8):qm (ws.map dV)[i] s=st.aN ws [s]:=by
 have:=h.aN hl s;unfold vh at this;rw [getD_eq hi]at this;simpa using this
theorem Pb(hl:cG ws)(hE:Goes ws P n 0 E)(hs:Sd ws P st w)(hf:st.aH=false)(hk:(st.aU ws).aL=2)(hm:(st.next ws).rem ws<n):J4 ws P st w (jO ws E st).2:=by
 have HS:=aa hs;have HL:=aa hl;have HE:=aa hE;have HB:=aa (eh.refl P.rb w);have hlt:=hs.lt;have km:=aa hf;have oZ:=aa (show st.bH ws=st.next ws by unfold PS.bH;rw [if_pos hk]);have iy:=aa (Fg (x:=st.aU ws) (by omega));have a1:st.aN ws [[116,114,117,101]]=false:=kZ hk (by omega);have a2:st.aN ws [[102,97,108,115,101]]=false:=kZ hk (by omega);have a3:st.aN ws [[45]]=false:=kZ hk (by omega);have a4:st.aN ws [[33]]=false:=kZ hk (by omega);have a5:st.aN ws [[40]]=false:=kZ hk (by omega);obtain⟨fin,nQ⟩:∃fin,fin=(jO ws E st).2:=⟨_,rfl⟩
 have Wr:=aa (show fin=if(st.next ws).aN ws [[40]]then(dZ ws E (st.next ws)).2 else st.next ws by rw [nQ];unfold jO;split<;>rfl)
 rw [<-nQ];have Ws:=aa (show(st.next ws).aH=false from hf);obtain⟨s,hsx⟩:∃s,s=st.next ws:=⟨_,rfl⟩;rw [<-hsx]at Wr Ws oZ hm;have AG:=aa Wr.o;have HSf:=aa Ws.o;clear hs hl hf hk hE nQ Wr Ws hsx;unfold J4
 go_enter func267,ntmps267
 go_wp2_with fail
 refine(bL HS.o HL.o [116,114,117,101]).mono ?_;rintro e wq ⟨rfl,dN,cR⟩;rw [a1];rw [bF st [116,114,117,101] a1]at cR;have eC:=aa (HB.o.trans dN);have ky:=aa cR;clear dN cR
 go_wp2_with fail
 refine(bL ky.o HL.o [102,97,108,115,101]).mono ?_;rintro e wq ⟨rfl,dN,cR⟩;rw [a2];rw [bF st [102,97,108,115,101] a2]at cR;have cU:=aa (eC.o.trans dN);have kg:=aa cR;clear dN cR
 go_wp2_with fail
 refine(bL kg.o HL.o [45]).mono ?_;rintro e wq ⟨rfl,dN,cR⟩;rw [a3];rw [bF st [45] a3]at cR;have dy:=aa (cU.o.trans dN);have nH:=aa cR;clear dN cR
 go_wp2_with fail
 refine(bL nH.o HL.o [33]).mono ?_;rintro e wq ⟨rfl,dN,cR⟩;rw [a4];rw [bF st [33] a4]at cR;have iw:=aa (dy.o.trans dN);have ri:=aa cR;clear dN cR
 go_wp2_with fail
 refine(bL ri.o HL.o [40]).mono ?_;rintro e wq ⟨rfl,dN,cR⟩;rw [a5];rw [bF st [40] a5]at cR;have gT:=aa (iw.o.trans dN);have sR:=aa cR;clear dN cR;clear HS ky kg nH ri HB eC cU dy iw a1 a2 a3 a4 a5;obtain⟨i,hi,hg,hr,hw⟩:=sR.o.open_ km.o;have f0:=ae hg.blk 0;have f1:=ae hg.blk 1;have f2:=ae hg.blk 2;have ff:=aj hg.blk;have fl:=af hg.blk;have zG:=hg.lt;have hsm:=hg.row.small;simp only [List.length_map]at zG hsm;simp at f0 f1 f2;have c0:=(hg.row.word i hg.lt).1;rw [(List.getElem?_eq_some_iff.1 hw).2]at c0;have c1:=iy.o;clear hw hi hg hr;go_wp2
 go_region
 go_wp2_with fail
 refine(sg (sR.o.drew') HL.o).mono ?_;rintro e w6 ⟨y,rfl,-,kz,pK⟩;rw [oZ.o]at pK;have fY:=aa (gT.o.drew.trans kz);have xP:=aa pK;clear kz pK f0 f1 f2 ff fl zG hsm c0 c1 sR gT iy oZ;have hf2:s.aH=false:=HSf.o;clear km;obtain⟨j,hj,hg,hr,-⟩:=xP.o.open_ hf2;have HI:=aa (λw' (hr:lT P.g (ws.map dV) w')=>zF P.g P.cap (ws.map dV) j hg.lt [40] w' hr);have f0:=ae hg.blk 0;have f1:=ae hg.blk 1;have f2:=ae hg.blk 2;have ff:=aj hg.blk;have fl:=af hg.blk;have zG:=hg.lt;have hsm:=hg.row.small;simp only [List.length_map]at zG hsm;simp at f0 f1 f2;have HG:=aa hg;have HR:=aa hr;rw [hr.abS HL.o hg.lt [40]]at HI;clear hg hr hf2 hlt;have Dv:=xP.o.lt;unfold oF;simp only [List.length_map]at HI
 rcases ha:s.aN ws [[40]]with _|_
 ·rw [ha]at HI AG
  go_wp2
  go_region_with (go_at_call 265;refine(HI.o _ (by first|exact HG.o.drew.row|exact HG.o.row)).mono ?_;rintro e w' ⟨rfl,rfl⟩)
  all_goals
   go_wp2
   ((try simp only [Exit.inBlock,Exit.then]);first|refine bodyPost_end (results_none rfl _ _ _) rfl ?_|refine bodyPost_ret (results_none rfl _ _ _) rfl ?_)
   exact⟨rfl,fY.o.drew,by rw [AG.o];exact xP.o.drew'⟩
 have ur:=PS.bX HL.o ha Dv.2;have QK:=aa (HG.o.step HR.o (by omega));have sX:=PS.dw ur
 have Al:=aa (show dZ ws E s=if(s.next ws).aN ws [[41]]then([],(s.next ws).next ws)else((E (s.next ws)).1::(dR ws E ws.length (E (s.next ws)).2).1,(dR ws E ws.length (E (s.next ws)).2).2.au ws [41]) by
  unfold dZ
  simp only [show s.au ws [40]=s.next ws by unfold PS.au;rw [ha];rfl])
 rw [ha]at HI AG;go_wp2
 go_cut [3]from 54 to 62 (λb wx=>b=.bool true/\wx=w6.drew)
 case first=>
  go_region_with (go_at_call 265;refine(HI.o _ (by first|exact HG.o.drew.row|exact HG.o.row)).mono ?_;rintro e w' ⟨rfl,rfl⟩)
  all_goals
   go_wp2
   go_meet
   case rel=>exact⟨rfl,rfl⟩
 obtain⟨rfl,rfl⟩:=hcut;have HS8:=aa (QK.o.2.drew');have MC:=aa ((fY.o.trans QK.o.1).drew);have gC:=PS.cj Dv.2;have ad4:=HS8.o.lt;have HNi:=aa (show(s.next ws).i=s.i+1 by unfold PS.next;show min (s.i+1) (ws.length-1)=_;omega);have qi:=aa (show fin=(dZ ws E s).2 by rw [AG.o];simp);clear QK HG HR HI xP fY AG
 rcases hc:(s.next ws).aN ws [[41]]with _|_
 ·have e1:=bF (s.next ws) [41] hc
  have fJ:=aa (show fin=(dR ws E ws.length (E (s.next ws)).2).2.au ws [41] by rw [qi.o,Al.o,hc];rfl);clear Al qi
  go_wp2_with fail
  refine(bL HS8.o HL.o [41]).mono ?_;rintro e w9 ⟨rfl,hb9,Wt⟩;rw [hc];rw [e1]at Wt;have HB9:=aa (MC.o.trans hb9);have HS9:=aa Wt;clear hb9 Wt HS8 MC e1 f0 f1 f2 ff
  go_wp2_with fail
  refine(HE.o (s.next ws) _ HS9.o (by omega)).mono ?_;rintro e wa ⟨rfl,Z',hsa,QG⟩;have HBa:=aa (HB9.o.trans Z');have Jb:=aa hsa;have HGa:=aa QG;clear Z' hsa QG HS9 HB9;go_wp2
  go_loopg [84] ws.length (λk _ wr=>∃t:PS,Hy ((dR ws E ws.length (E (s.next ws)).2).2=(dR ws E k t).2)/\t.rem ws<k/\Hy (eh P.rb w wr)/\Hy (Sd ws P t wr)/\(s.next ws).i<=t.i)
  case atStart=>exact⟨(E (s.next ws)).2,rfl,by have:=Jb.o.lt;simp only [PS.rem];omega,HBa,Jb,HGa.o⟩
  case round=>
   obtain⟨t,HC,jh,HBt,oD,dG⟩:=hrel;have hlt:=oD.o.lt
   rcases hd:t.aN ws [[44]]with _|_
   ·have HF:=aa (show(dR ws E ws.length (E (s.next ws)).2).2=t by rw [HC.o];exact Pa _ _ _ hd)
    have e1:=bF t [44] hd
    go_wp2_with fail
    refine(bL oD.o HL.o [44]).mono ?_;rintro e wb ⟨rfl,oP,yi⟩;rw [hd];rw [e1]at yi;have J5:=aa (HBt.o.trans oP);have Nz:=aa yi;clear oP yi e1
    go_wp2_with fail
    refine(gX Nz.o HL.o [41]).mono ?_;rintro e wd ⟨rfl,sG,fF⟩;have pZ:=aa (J5.o.trans sG);have Gx:=aa fF;clear sG fF;go_wp2
    ((try simp only [Exit.inBlock,Exit.then]);first|refine bodyPost_end (results_none rfl _ _ _) rfl ?_|refine bodyPost_ret (results_none rfl _ _ _) rfl ?_)
    exact⟨rfl,pZ.o,by rw [fJ.o,HF.o];exact Gx.o⟩
   ·have e1:=eA t [44] hd
    have hti:=PS.bX HL.o hd hlt.2;have htn:=PS.dw hti;have vK:=PS.cj hlt.2
    have Hg:(t.next ws).rem ws<n:=by have:=PS.cH (ws:=ws) (st:=s.next ws) (st':=t) dG;omega
    have D8:=aa hd
    go_wp2_with fail
    refine(bL oD.o HL.o [44]).mono ?_;rintro e wb ⟨rfl,oP,yi⟩;rw [hd];rw [e1]at yi;have J5:=aa (HBt.o.trans oP);have Nz:=aa yi;clear oP yi e1
    go_wp2_with fail
    refine(HE.o (t.next ws) _ Nz.o Hg).mono ?_;rintro e wd ⟨rfl,sG,fF,hgd⟩;have pZ:=aa (J5.o.trans sG);have Gx:=aa fF;have HGd:=aa hgd;clear sG fF hgd;go_wp2
    go_roundg (gk-1)
    case measure=>omega
    case rel=>
     obtain⟨k,e⟩:∃k,gk=k+1:=⟨gk-1,by omega⟩;subst e;exact⟨_,aa (HC.o.trans (S4 E k t D8.o)),by have:=PS.cH (ws:=ws) HGd.o;show PS.rem ws _<k;omega,pZ,Gx,Nat.le_trans dG (Nat.le_trans vK HGd.o)⟩
 have e1:=eA (s.next ws) [41] hc;have fJ:=aa (show fin=(s.next ws).next ws by rw [qi.o,Al.o,hc];rfl);clear Al qi
 go_wp2_with fail
 refine(bL HS8.o HL.o [41]).mono ?_;rintro e w9 ⟨rfl,hb9,Wt⟩;rw [hc];rw [e1]at Wt;have HB9:=aa (MC.o.trans hb9);have HS9:=aa Wt;clear hb9 Wt HS8 MC e1 f0 f1 f2 ff;go_wp2
 ((try simp only [Exit.inBlock,Exit.then]);first|refine bodyPost_end (results_none rfl _ _ _) rfl ?_|refine bodyPost_ret (results_none rfl _ _ _) rfl ?_)
 exact⟨rfl,HB9.o,by rw [fJ.o];exact HS9.o⟩
end
section
variable {ws:List Wd} {P:Rp} {n:Nat} {E F:PS->Ex×PS}
theorem Fh(hl:cG ws)(hE:Goes ws P n 0 E)(hF:Goes ws P n 3 F)(hs:Sd ws P st w)(hf:st.aH=false)(hm:st.rem ws<n+1):J4 ws P st w (bI ws E F st).2:=by
 have hlt:=hs.lt
 have hn:(st.aU ws).aL≠0->(st.next ws).rem ws<n:=λhk=>by
  have:=PS.dw (PS.fM hl hk hlt.2);omega
 unfold bI
 by_cases k3:(st.aU ws).aL=3
 ·rw [if_pos k3];exact S2 hl hs hf k3
 rw [if_neg k3]
 by_cases k2:(st.aU ws).aL=2
 ·rw [if_pos k2];exact Pb hl hE hs hf k2 (hn (by omega))
 rw [if_neg k2]
 rcases ht:st.aN ws [[116,114,117,101],[102,97,108,115,101]]with _|_
 ·simp only [Bool.false_eq_true,if_false]
  have Pc:=ht;rw [cY,Bool.or_eq_false_iff]at Pc
  rcases hb:st.aN ws [[40]]with _|_
  ·simp only [Bool.false_eq_true,if_false]
   rcases h1:st.aN ws [[45]]with _|_
   ·simp only [Bool.false_eq_true,if_false]
    rcases h2:st.aN ws [[33]]with _|_
    ·simp only [Bool.false_eq_true,if_false]
     exact S3 hl hs hf k3 k2 Pc.1 Pc.2 h1 h2 hb
    ·simp only [if_true]
     exact Fe hl hF hs (hn (by have:=jY h2;omega)) (Or.inr h2)
   ·simp only [if_true]
    exact Fe hl hF hs (hn (by have:=jY h1;omega)) (Or.inl h1)
  ·simp only [if_true]
   exact Ff hl hE hs (hn (by have:=jY hb;omega)) hb
 simp only [if_true];exact Lz hl hs ht
theorem aad(hl:cG ws)(hE:Goes ws P n 0 E)(hF:Goes ws P n 3 F)(hG:dT ws (n+1) (bI ws E F)):Goes ws P (n+1) 3 (bI ws E F):=by
 intro st w hs hm;have hlt:=hs.lt;have HS:=aa hs;have oD:=aa (r8 hl (by omega) E F);have HG:=aa (hG st hlt.2 hm).2.1;have HC:=aa (λhf=>Fh hl hE hF hs hf hm);obtain⟨i,bad,hg,hr⟩:=hs;have f2:=ae hg.blk 2;have fl:=af hg.blk;simp at f2;have AP:=aa hr;clear hg hr hE hF hl hG
 rcases bad with _|_
 ·have kW:=aa (HC.o (AP.o.ok rfl).2)
  unfold J4 at kW;clear AP HC
  go_enter func238,ntmps238
  go_wp2_with fail
  refine kW.o.mono ?_;rintro e w1 ⟨rfl,hb1,hs1⟩;have eC:=aa hb1;have ky:=aa hs1;clear hb1 hs1 f2;go_wp2
  ((try simp only [Exit.inBlock,Exit.then]);first|refine bodyPost_end (results_none rfl _ _ _) rfl ?_|refine bodyPost_ret (results_none rfl _ _ _) rfl ?_)
  exact⟨rfl,eC.o,ky.o,HG.o⟩
 have HN:=aa (AP.o.no rfl);clear AP HC
 go_enter func238,ntmps238
 go_wp2
 ((try simp only [Exit.inBlock,Exit.then]);first|refine bodyPost_end (results_none rfl _ _ _) rfl ?_|refine bodyPost_ret (results_none rfl _ _ _) rfl ?_)
 have e:(bI ws E F st).2=st:=by rw [HN.o];exact oD.o _
 exact⟨rfl,eh.refl _ _,by rw [e];exact HS.o,by rw [e];exact Nat.le_refl _⟩
def Uh(ws:List Wd)(P:Rp)(st:PS)(w:World)(s':PS):Prop:=Calls prog 266 #[.pointer (some ⟨P.rb,0,none⟩)] w λe w'=>e=.returned (.tuple #[])/\eh P.rb w w'/\Sd ws P s' w'
theorem Wu(hl:cG ws)(hE:Goes ws P n 0 E)(hs:Sd ws P st w)(hm:(st.next ws).rem ws<n)(h:st.aN ws [[105,102]]=true)(h0:(st.next ws).i<ws.length):Uh ws P st w (dX ws E st).2:=by
 have HS:=aa hs;have HL:=aa hl;have HE:=aa hE;have HB:=aa (eh.refl P.rb w);have HC:=aa (show(dX ws E st).2=(E ((E ((E (st.next ws)).2.au ws [116,104,101,110])).2.au ws [101,108,115,101])).2 from rfl);obtain⟨fin,nQ⟩:∃fin,fin=(dX ws E st).2:=⟨_,rfl⟩;rw [<-nQ]at HC⊢;clear hs hl hE nQ;unfold Uh
 go_enter func266,ntmps266
 go_wp2_with fail
 refine(bL HS.o HL.o [105,102]).mono ?_;rintro e wq ⟨rfl,dN,cR⟩;rw [h];rw [eA st [105,102] h]at cR;have eC:=aa (HB.o.trans dN);have ky:=aa cR;clear dN cR
 go_wp2_with fail
 refine(HE.o (st.next ws) _ ky.o hm).mono ?_;rintro e w2 ⟨rfl,hb2,hs2,hg2⟩;have cU:=aa (eC.o.trans hb2);have kg:=aa hs2;have hl2:=hs2.lt;clear hb2 hs2;generalize (E (st.next ws)).2=s2 at*
 go_wp2_with fail
 refine(gX kg.o HL.o [116,104,101,110]).mono ?_;rintro e w3 ⟨rfl,hb3,hs3⟩;have dy:=aa (cU.o.trans hb3);have nH:=aa hs3;have g3:=PS.bQ (ws:=ws) [116,104,101,110] hl2.2;clear hb3 hs3;generalize s2.au ws [116,104,101,110]=s3 at*
 go_wp2_with fail
 refine(HE.o s3 _ nH.o (by have:=PS.cH (ws:=ws) hg2;have:=PS.cH (ws:=ws) g3;omega)).mono ?_;rintro e w4 ⟨rfl,hb4,mC,hg4⟩;have iw:=aa (dy.o.trans hb4);have ri:=aa mC;have hl4:=mC.lt;clear hb4 mC;generalize (E s3).2=s4 at*
 go_wp2_with fail
 refine(gX ri.o HL.o [101,108,115,101]).mono ?_;rintro e w5 ⟨rfl,cZ,hs5⟩;have gT:=aa (iw.o.trans cZ);have sR:=aa hs5;have g5:=PS.bQ (ws:=ws) [101,108,115,101] hl4.2;clear cZ hs5;generalize s4.au ws [101,108,115,101]=s5 at*
 go_wp2_with fail
 refine(HE.o s5 _ sR.o (by have:=PS.cH (ws:=ws) hg2;have:=PS.cH (ws:=ws) g3;have:=PS.cH (ws:=ws) hg4;have:=PS.cH (ws:=ws) g5;omega)).mono ?_;rintro e w6 ⟨rfl,kz,pK,-⟩;have fY:=aa (gT.o.trans kz);have xP:=aa pK;clear kz pK;go_wp2
 ((try simp only [Exit.inBlock,Exit.then]);first|refine bodyPost_end (results_none rfl _ _ _) rfl ?_|refine bodyPost_ret (results_none rfl _ _ _) rfl ?_)
 exact⟨rfl,fY.o,by rw [HC.o];exact xP.o⟩
theorem S5(hl:cG ws)(hE:Goes ws P n 0 E)(hs:Sd ws P st w)(hm:(st.next ws).rem ws<n)(h:st.aN ws [[108,101,116]]=true):Uh ws P st w (dD ws E st).2:=by
 have HS:=aa hs;have HL:=aa hl;have HE:=aa hE;have HB:=aa (eh.refl P.rb w);have a1:st.aN ws [[105,102]]=false:=nu h (by decide);have HC:=aa (show(dD ws E st).2=(E ((E (((st.next ws).bH ws).au ws [61])).2.au ws [105,110])).2 from rfl);obtain⟨fin,nQ⟩:∃fin,fin=(dD ws E st).2:=⟨_,rfl⟩;rw [<-nQ]at HC⊢;clear hs hl hE nQ;unfold Uh
 go_enter func266,ntmps266
 go_wp2_with fail
 refine(bL HS.o HL.o [105,102]).mono ?_;rintro e wq ⟨rfl,dN,cR⟩;rw [a1];rw [bF st [105,102] a1]at cR;have TS:=aa (HB.o.trans dN);have HS0:=aa cR;clear dN cR
 go_wp2_with fail
 refine(bL HS0.o HL.o [108,101,116]).mono ?_;rintro e wq ⟨rfl,dN,cR⟩;rw [h];rw [eA st [108,101,116] h]at cR;have eC:=aa (TS.o.trans dN);have ky:=aa cR;clear dN cR;have oT:=ky.o.lt;generalize st.next ws=s1 at*
 go_wp2_with fail
 refine(sg ky.o HL.o).mono ?_;rintro e w2 ⟨y,rfl,-,hb2,hs2⟩;have cU:=aa (eC.o.trans hb2);have kg:=aa hs2;have hl2:=hs2.lt;have g2:=PS.oU (ws:=ws) oT.2;clear hb2 hs2;generalize s1.bH ws=s2 at*;unfold oF
 go_wp2_with fail
 refine(gX kg.o HL.o [61]).mono ?_;rintro e w3 ⟨rfl,hb3,hs3⟩;have dy:=aa (cU.o.trans hb3);have nH:=aa hs3;have g3:=PS.bQ (ws:=ws) [61] hl2.2;clear hb3 hs3;generalize s2.au ws [61]=s3 at*
 go_wp2_with fail
 refine(HE.o s3 _ nH.o (by have:=PS.cH (ws:=ws) g2;have:=PS.cH (ws:=ws) g3;omega)).mono ?_;rintro e w4 ⟨rfl,hb4,mC,hg4⟩;have iw:=aa (dy.o.trans hb4);have ri:=aa mC;have hl4:=mC.lt;clear hb4 mC;generalize (E s3).2=s4 at*
 go_wp2_with fail
 refine(gX ri.o HL.o [105,110]).mono ?_;rintro e w5 ⟨rfl,cZ,hs5⟩;have gT:=aa (iw.o.trans cZ);have sR:=aa hs5;have g5:=PS.bQ (ws:=ws) [105,110] hl4.2;clear cZ hs5;generalize s4.au ws [105,110]=s5 at*
 go_wp2_with fail
 refine(HE.o s5 _ sR.o (by have:=PS.cH (ws:=ws) g2;have:=PS.cH (ws:=ws) g3;have:=PS.cH (ws:=ws) hg4;have:=PS.cH (ws:=ws) g5;omega)).mono ?_;rintro e w6 ⟨rfl,kz,pK,-⟩;have fY:=aa (gT.o.trans kz);have xP:=aa pK;clear kz pK;go_wp2
 ((try simp only [Exit.inBlock,Exit.then]);first|refine bodyPost_end (results_none rfl _ _ _) rfl ?_|refine bodyPost_ret (results_none rfl _ _ _) rfl ?_)
 exact⟨rfl,fY.o,by rw [HC.o];exact xP.o⟩
end
section
variable {ws:List Wd} {P:Rp} {n:Nat} {E F:PS->Ex×PS}
theorem S6(hl:cG ws)(hR:Goes ws P (n+1) 1 R)(hs:Sd ws P st w)(hm:st.rem ws<n+1)(a1:st.aN ws [[105,102]]=false)(a2:st.aN ws [[108,101,116]]=false):
  Uh ws P st w (if(R st).2.aN ws [[60],[61,61]]then(R ((R st).2.next ws)).2 else(R st).2):=by
 have HS:=aa hs;have HL:=aa hl;have HR:=aa hR;have HB:=aa (eh.refl P.rb w)
 obtain⟨fin,nQ⟩:∃fin,fin=if(R st).2.aN ws [[60],[61,61]]then(R ((R st).2.next ws)).2 else(R st).2:=⟨_,rfl⟩
 rw [<-nQ];have HC:=aa nQ;clear hs hl hR nQ;unfold Uh
 go_enter func266,ntmps266
 go_wp2_with fail
 refine(bL HS.o HL.o [105,102]).mono ?_;rintro e wq ⟨rfl,dN,cR⟩;rw [a1];rw [bF st [105,102] a1]at cR;have eC:=aa (HB.o.trans dN);have ky:=aa cR;clear dN cR
 go_wp2_with fail
 refine(bL ky.o HL.o [108,101,116]).mono ?_;rintro e wq ⟨rfl,dN,cR⟩;rw [a2];rw [bF st [108,101,116] a2]at cR;have cU:=aa (eC.o.trans dN);have kg:=aa cR;clear dN cR
 go_wp2_with fail
 refine(HR.o st _ kg.o hm).mono ?_;rintro e w3 ⟨rfl,hb3,hs3,hg3⟩;have dy:=aa (cU.o.trans hb3);have nH:=aa hs3;have iY:=hs3.lt;clear hb3 hs3;generalize (R st).2=s at*
 rcases hb:s.aN ws [[60]]with _|_
 ·have e1:=bF s [60] hb
  rcases hc:s.aN ws [[61,61]]with _|_
  ·have e2:=bF s [61,61] hc
   have HF:=aa (show fin=s by rw [HC.o,cY,hb,hc];rfl)
   go_wp2_with fail
   refine(bL nH.o HL.o [60]).mono ?_;rintro e w4 ⟨rfl,hb4,mC⟩;rw [hb];rw [e1]at mC;have iw:=aa (dy.o.trans hb4);have ri:=aa mC;clear hb4 mC
   go_wp2_with fail
   refine(bL ri.o HL.o [61,61]).mono ?_;rintro e w5 ⟨rfl,cZ,hs5⟩;rw [hc];rw [e2]at hs5;have gT:=aa (iw.o.trans cZ);have sR:=aa hs5;clear cZ hs5 e1 e2;go_wp2
   ((try simp only [Exit.inBlock,Exit.then]);first|refine bodyPost_end (results_none rfl _ _ _) rfl ?_|refine bodyPost_ret (results_none rfl _ _ _) rfl ?_)
   exact⟨rfl,gT.o,by rw [HF.o];exact sR.o⟩
  ·have e2:=eA s [61,61] hc
   have HF:=aa (show fin=(R (s.next ws)).2 by rw [HC.o,cY,hb,hc];rfl);have gC:=PS.cj iY.2
   go_wp2_with fail
   refine(bL nH.o HL.o [60]).mono ?_;rintro e w4 ⟨rfl,hb4,mC⟩;rw [hb];rw [e1]at mC;have iw:=aa (dy.o.trans hb4);have ri:=aa mC;clear hb4 mC
   go_wp2_with fail
   refine(bL ri.o HL.o [61,61]).mono ?_;rintro e w5 ⟨rfl,cZ,hs5⟩;rw [hc];rw [e2]at hs5;have gT:=aa (iw.o.trans cZ);have sR:=aa hs5;clear cZ hs5 e1 e2
   go_wp2_with fail
   refine(HR.o (s.next ws) _ sR.o (by have:=PS.cH (ws:=ws) hg3;have:=PS.cH (ws:=ws) gC;omega)).mono ?_;rintro e w6 ⟨rfl,kz,pK,-⟩;have fY:=aa (gT.o.trans kz);have xP:=aa pK;clear kz pK;go_wp2
   ((try simp only [Exit.inBlock,Exit.then]);first|refine bodyPost_end (results_none rfl _ _ _) rfl ?_|refine bodyPost_ret (results_none rfl _ _ _) rfl ?_)
   exact⟨rfl,fY.o,by rw [HF.o];exact xP.o⟩
 have e1:=eA s [60] hb;have HF:=aa (show fin=(R (s.next ws)).2 by rw [HC.o,cY,hb];rfl);have gC:=PS.cj iY.2
 go_wp2_with fail
 refine(bL nH.o HL.o [60]).mono ?_;rintro e w4 ⟨rfl,hb4,mC⟩;rw [hb];rw [e1]at mC;have gT:=aa (dy.o.trans hb4);have sR:=aa mC;clear hb4 mC e1
 go_wp2_with fail
 refine(HR.o (s.next ws) _ sR.o (by have:=PS.cH (ws:=ws) hg3;have:=PS.cH (ws:=ws) gC;omega)).mono ?_;rintro e w6 ⟨rfl,kz,pK,-⟩;have fY:=aa (gT.o.trans kz);have xP:=aa pK;clear kz pK;go_wp2
 ((try simp only [Exit.inBlock,Exit.then]);first|refine bodyPost_end (results_none rfl _ _ _) rfl ?_|refine bodyPost_ret (results_none rfl _ _ _) rfl ?_)
 exact⟨rfl,fY.o,by rw [HF.o];exact xP.o⟩
theorem Ig(hl:cG ws)(hE:Goes ws P n 0 E)(hR:Goes ws P (n+1) 1 (xE ws fa))(hs:Sd ws P st w)(hm:st.rem ws<n+1):Uh ws P st w (jN ws E fa st).2:=by
 have hlt:=hs.lt;unfold jN
 rcases h1:st.aN ws [[105,102]]with _|_
 ·simp only [Bool.false_eq_true,if_false]
  rcases h2:st.aN ws [[108,101,116]]with _|_
  ·simp only [Bool.false_eq_true,if_false]
   have:=S6 hl hR hs hm h1 h2;unfold iP
   split
   ·next h=>rw [if_pos h]at this;exact this
   ·next h=>rw [if_neg h]at this;exact this
  ·simp only [if_true]
   have hi:=PS.bX hl h2 hlt.2;exact S5 hl hE hs (by have:=PS.dw hi;omega) h2
 simp only [if_true];have hi:=PS.bX hl h1 hlt.2;exact Wu hl hE hs (by have:=PS.dw hi;omega) h1 (by simp only [PS.next];omega)
theorem aae(hl:cG ws)(hE:Goes ws P n 0 E)(hS:oa ws fa)(hR:Goes ws P (n+1) 1 (xE ws fa))(hG:dT ws (n+1) (jN ws E fa)):Goes ws P (n+1) 0 (jN ws E fa):=by
 intro st w hs hm;have hlt:=hs.lt;have HS:=aa hs;have oD:=aa (BK hl (by omega) E hS);have HG:=aa (hG st hlt.2 hm).2.1;have HC:=aa (Ig hl hE hR hs hm);unfold Uh at HC;obtain⟨i,bad,hg,hr⟩:=hs;have f2:=ae hg.blk 2;have fl:=af hg.blk;simp at f2;have AP:=aa hr;clear hg hr hE hR hl hG hS
 rcases bad with _|_
 ·clear AP
  go_enter func238,ntmps238
  go_wp2_with fail
  refine HC.o.mono ?_;rintro e w1 ⟨rfl,hb1,hs1⟩;have eC:=aa hb1;have ky:=aa hs1;clear hb1 hs1 f2;go_wp2
  ((try simp only [Exit.inBlock,Exit.then]);first|refine bodyPost_end (results_none rfl _ _ _) rfl ?_|refine bodyPost_ret (results_none rfl _ _ _) rfl ?_)
  exact⟨rfl,eC.o,ky.o,HG.o⟩
 have HN:=aa (AP.o.no rfl);clear AP HC
 go_enter func238,ntmps238
 go_wp2
 ((try simp only [Exit.inBlock,Exit.then]);first|refine bodyPost_end (results_none rfl _ _ _) rfl ?_|refine bodyPost_ret (results_none rfl _ _ _) rfl ?_)
 have e:(jN ws E fa st).2=st:=by rw [HN.o];exact oD.o _
 exact⟨rfl,eh.refl _ _,by rw [e];exact HS.o,by rw [e];exact Nat.le_refl _⟩
theorem J6(hl:eR ws)(h0:0<ws.length):∀n,Goes ws P n 0 (rd ws n).1/\Goes ws P n 3 (rd ws n).2
 |0=>⟨λst w _ h=>absurd h (by omega),λst w _ h=>absurd h (by omega)⟩
 |n+1=>by
  obtain⟨iE,iF⟩:=J6 hl h0 n;obtain⟨gE,gF⟩:=x_ hl (n+1);have h3:=aad hl.1 iE iF gF;have s3:=r8 hl.1 h0 (rd ws n).1 (rd ws n).2;have h2:=Fb h3 s3 hl.1;have h1:=Fc h2 (nt hl.1 h0 s3 _) hl.1;exact⟨aae hl.1 iE s3 h1 gE,h3⟩
end
theorem pC(s:ByteArray)(w:World)(ad5:s.size<=140737488355328):Calls prog 81 #[.string s] w λe w'=>e=.returned (.bool (cw s.data.toList))/\w'=w:=by
 have rU:s.data.toList.length=s.size:=by simp
 by_cases h0:0<s.size
 ·have hc:=kF s h0
  have hne:¬s.data.toList= []:=by rw [hc];simp
  have hem:s.toList.isEmpty=false:=by rw [ByteArray.toList_eq,hc];rfl
  have NC:¬s.toList= []:=by rw [ByteArray.toList_eq];exact hne
  have HE:=aa (show cw s.data.toList=(decide (s.size<=8)&&(bP (s[0].toNat:Int)&&(aT aS s.data.toList==s.size&& !bS s.data.toList))) by
   unfold cw
   have e1:(s.data.toList==([]:List UInt8))=false:=by simpa using hne
   rw [e1,rU,show s.data.toList.headD 0=s[0] by rw [hc];rfl]
   rfl)
  have HK:=aa (iz s w);have QN:=aa (dr (s[0].toNat:Int) w);have ox:=aa (show ∀j,(h:j<s.size)->s.data.toList[j]'(by simpa using h)=s[j]from λj h=>rfl);have KQ:=aa rU;clear hc rU hne
  by_cases h8:s.size<=8
  ·have YM:¬(8:Int)<(s.size:Int):=by omega
   rcases L1:bS s.data.toList with _|_
   ·rcases hlc:bP (s[0].toNat:Int)with _|_
    ·rw [L1]at HK
     rw [hlc]at QN;have HV:=aa (show cw s.data.toList=false by rw [HE.o,hlc];simp);clear L1 hlc HE
     go_enter func81,ntmps81
     go_wp2_with fail
     refine HK.o.mono ?_;rintro e w' ⟨rfl,rfl⟩
     go_wp2_with fail
     refine QN.o.mono ?_;rintro e w' ⟨rfl,rfl⟩;go_wp2;go_ret;exact⟨bD (by rw [HV.o]),rfl⟩
    ·rw [hlc]at QN
     have HV:=aa (show cw s.data.toList=(aT aS s.data.toList==s.size) by rw [HE.o,hlc,L1];simp [h8]);rw [L1]at HK;clear L1 hlc HE
     go_enter func81,ntmps81
     go_wp2_with fail
     refine HK.o.mono ?_;rintro e w' ⟨rfl,rfl⟩
     go_wp2_with fail
     refine QN.o.mono ?_;rintro e w' ⟨rfl,rfl⟩;go_wp2
     go_loopw [4] (λi wr=>∃j:Nat,j<=s.size/\i=.int .i64 j/\Hy (wr=w')/\Hy (∀k,(h:k<j)->(hj:j<=s.size)->aS ((s.data.toList[k]'(by rw [KQ.o];omega)).toNat:Int)=true)) (λi _=>s.size-(intOf i).toNat)
     case atStart=>exact⟨0,by omega,rfl,aa rfl,aa (λk h=>absurd h (by omega))⟩
     case round=>
      obtain⟨j,hj,rfl,HEq,kr⟩:=hrel
      by_cases hlt:j<s.size
      ·have E2:(j:Int)<(s.size:Int):=by omega
       have L2:(0:Int)<=(j:Int):=by omega
       rcases hl:bP (s[j].toNat:Int)with _|_
       ·rcases hd:ba (s[j].toNat:Int)with _|_
        ·have Jq:=aa (show cw s.data.toList=false by
          rw [HV.o,nS aS s.data.toList j (by rw [KQ.o];exact hlt) (λk hk=>kr.o k hk (by omega)) (by rw [ox.o j hlt];unfold aS;rw [hl,hd];rfl)]
          simp;omega)
         go_wp2_with fail
         refine(dr _ _).mono ?_;rintro e w2 ⟨rfl,rfl⟩;rw [hl]
         go_wp2_with fail
         refine(dJ _ _).mono ?_;rintro e w3 ⟨rfl,rfl⟩;rw [hd];go_wp2;go_ret;exact⟨bD (by rw [Jq.o]),HEq.o⟩
        ·have HN:=aa (show aS (s[j].toNat:Int)=true by unfold aS;rw [hl,hd];rfl)
         go_wp2_with fail
         refine(dr _ _).mono ?_;rintro e w2 ⟨rfl,rfl⟩;rw [hl]
         go_wp2_with fail
         refine(dJ _ _).mono ?_;rintro e w3 ⟨rfl,rfl⟩;rw [hd];go_wp2
         go_roundw
         case rel=>exact⟨j+1,by omega,by go_num,HEq,aa (λk hk xW=>by
          by_cases e:k<j
          ·exact kr.o k e (by omega)
          ·have e2:k=j:=by omega
           subst e2
           rw [ox.o k hlt];exact HN.o)⟩
         case measure=>simp [intOf];omega
       ·have HN:=aa (show aS (s[j].toNat:Int)=true by unfold aS;rw [hl];rfl)
        go_wp2_with fail
        refine(dr _ _).mono ?_;rintro e w2 ⟨rfl,rfl⟩;rw [hl];go_wp2
        go_roundw
        case rel=>exact⟨j+1,by omega,by go_num,HEq,aa (λk hk xW=>by
         by_cases e:k<j
         ·exact kr.o k e (by omega)
         ·have e2:k=j:=by omega
          subst e2
          rw [ox.o k hlt];exact HN.o)⟩
        case measure=>simp [intOf];omega
      ·have jU:j=s.size:=by omega
       subst jU
       have Jq:=aa (show cw s.data.toList=true by
        rw [HV.o,pN aS s.data.toList (λk hk=>kr.o k (by rw [KQ.o]at hk;exact hk) (Nat.le_refl _)),KQ.o]
        simp)
       go_wp2;go_ret;exact⟨bD (by rw [Jq.o]),HEq.o⟩
   ·rw [L1]at HK
    have HV:=aa (show cw s.data.toList=false by rw [HE.o,L1];simp);clear L1 HE
    go_enter func81,ntmps81
    go_wp2_with fail
    refine HK.o.mono ?_;rintro e w' ⟨rfl,rfl⟩;go_wp2;go_ret;exact⟨bD (by rw [HV.o]),rfl⟩
  ·have YM:(8:Int)<(s.size:Int):=by omega
   have HV:=aa (show cw s.data.toList=false by rw [HE.o];simp [h8]);clear HE
   go_enter func81,ntmps81
   go_wp2_with fail
   refine HK.o.mono ?_;rintro e w' ⟨rfl,rfl⟩;go_wp2;go_ret;exact⟨bD (by rw [HV.o]),rfl⟩
 have hs0:s.size=0:=by omega
 have he:s.data.toList= []:=List.eq_nil_of_length_eq_zero (by rw [rU];exact hs0)
 have TG:s.toList= []:=by rw [ByteArray.toList_eq];exact he
 have HV:=aa (show cw s.data.toList=false by rw [he];rfl);have HK:=aa (iz s w);clear he rU
 go_enter func81,ntmps81
 go_wp2_with fail
 refine HK.o.mono ?_;rintro e w' ⟨rfl,rfl⟩;go_wp2;go_ret;exact⟨bD (by rw [HV.o]),rfl⟩
theorem Ui(h:bS n=true):n.length<=8/\∃c t,n=c::t/\bP (c.toNat:Int)=true:=by
 have h':n∈cr:=by unfold bS at h;simpa using h
 unfold cr at h';simp only [List.mem_cons,List.not_mem_nil,or_false]at h'
 rcases h' with rfl|rfl|rfl|rfl|rfl|rfl|rfl|rfl|rfl|rfl|rfl|rfl<;>exact⟨by decide,_,_,rfl,by decide⟩
def vr(n:List UInt8):Nat:=if bS n then 107 else if cw n then 110 else 98
theorem take_cons{c:UInt8}(h:0<k):(c::r).take k=c::r.take (k-1):=by
 obtain⟨j,rfl⟩:∃j,k=j+1:=⟨k-1,by omega⟩
 rfl
theorem BL(pb:Int->Bool):∀l:List UInt8,aT pb (l.take (aT pb l))=aT pb l
 | []=>rfl
 |c::r=>by
  by_cases h:pb (c.toNat:Int)=true
  ·have e:aT pb (c::r)=aT pb r+1:=by simp [aT,h]
   rw [e,List.take_succ_cons];have:=BL pb r;simp [aT,h,this]
  ·have e:aT pb (c::r)=0:=by simp [aT,h]
   rw [e];rfl
theorem BM{pb:Int->Bool}{c:UInt8}(h:pb (c.toNat:Int)=true):0<aT pb (c::r):=by simp [aT,h]
theorem xt{r:List UInt8}(h:bP (c.toNat:Int)=true)(p:Nat):
  dV ⟨(aV (c::r)).1,(c::r).take (aV (c::r)).2,p⟩=⟨vr ((c::r).take (aT aS (c::r))),(c::r).take (aT aS (c::r)),p⟩/\(aV (c::r)).2=aT aS (c::r):=by
 have e:aV (c::r)=(dM ((c::r).take (aT aS (c::r))),aT aS (c::r)):=by simp [aV,h]
 rw [e];refine⟨?_,rfl⟩
 have hb:aS (c.toNat:Int)=true:=by unfold aS;rw [h];rfl
 have hp:=BM (r:=r) hb;have ht:=BL aS (c::r)
 have hlen:((c::r).take (aT aS (c::r))).length=aT aS (c::r):=by rw [List.length_take];have:=jy aS (c::r);omega
 have Fi:=take_cons (c:=c) (r:=r) hp;generalize (c::r).take (aT aS (c::r))=n at*;generalize aT aS (c::r)=k at*
 have hN:cw n=(decide (n.length<=8)&& !bS n):=by
  unfold cw;rw [ht,hlen,Fi];simp [h]
 unfold dV vr dM;rw [hN]
 by_cases h8:8<n.length
 ·have hk:bS n=false:=by
   rcases hk:bS n with _|_
   ·rfl
   ·have:=(Ui hk).1;omega
  simp [h8,hk,show ¬n.length<=8 by omega]
 rcases hk:bS n with _|_
 ·simp [h8,show n.length<=8 by omega]
 have hn:∃t,n=c::t:=⟨_,Fi⟩;obtain⟨t,rfl⟩:=hn
 have h9:¬8<t.length+1:=by simpa using h8
 have h7:t.length<=7:=by omega
 simp [h9,h7,h]
theorem Ih{r:List UInt8}(h:bP (c.toNat:Int)=false)(hd:ba (c.toNat:Int)=true)(p:Nat):
  dV ⟨(aV (c::r)).1,(c::r).take (aV (c::r)).2,p⟩=⟨if aT ba (c::r)<=9 then 100 else 98,(c::r).take (aT ba (c::r)),p⟩/\(aV (c::r)).2=aT ba (c::r)/\
   bS ((c::r).take (aT ba (c::r)))=false/\cw ((c::r).take (aT ba (c::r)))=false:=by
 have e:aV (c::r)=(if 9<aT ba (c::r)then 1 else 3,aT ba (c::r)):=by simp [aV,h,hd]
 rw [e];have hp:=BM (r:=r) hd;have Fi:=take_cons (c:=c) (r:=r) hp;refine⟨?_,rfl,?_,?_⟩
 ·unfold dV
  by_cases h9:9<aT ba (c::r)
  ·simp [h9,show ¬aT ba (c::r)<=9 by omega]
  ·simp [h9,show aT ba (c::r)<=9 by omega]
 ·rcases hk:bS ((c::r).take (aT ba (c::r)))with _|_
  ·rfl
  ·obtain⟨_,c',t,e',hl⟩:=Ui hk
   rw [Fi]at e';have:=(List.cons.inj e').1;rw [<-this,h]at hl
   cases hl
 unfold cw;rw [Fi];simp [h]
theorem gR{c:UInt8}(h:bP (c.toNat:Int)=false)(hd:ba (c.toNat:Int)=false):aV (c::r)=bB (c::r):=by simp [aV,h,hd]
theorem Fj{c:UInt8}(h:bm (c.toNat:Int)=true)(r:List UInt8)(p:Nat):aD (c::r) p=aD r (p+1):=by
 have:=Lf.blank h p r;simpa using this
theorem L3(p:Nat):(aD [] p).map dV= [⟨101,[],p⟩]:=rfl
end Go.Proofs.YtpmmjkiclngpmaaGreatDoor
