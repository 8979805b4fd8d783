/- YtpmmjkiclngpmaaGreatDoorB14 -/
import Derived.Shelf.SlSortCmp.WholeK
import Derived.Shelf.SlSortCmp.NoneTotal
import Derived.Test.YtpmmjkiclngpmaaGreatDoorB12
import Derived.Test.YtpmmjkiclngpmaaGreatDoorB09
import Derived.Deep.RegionWith
import Derived.Deep.LoopGhost
import Derived.Deep.DeepCutAuto
import Derived.Laws.StructEq
import Derived.Shelf.SlicesE.Kit
set_option maxRecDepth 100000
set_option linter.unusedSimpArgs false
set_option linter.unusedVariables false
set_option maxHeartbeats 12800000
namespace Go.Proofs
open Go.Shelf
def Tryz.sortU_ren:Go.Shelf.Ren:=⟨λ|6=>119|15=>109|14=>181|28=>170|29=>171|20=>225|21=>226|22=>227|23=>228|24=>229|25=>230|26=>231|27=>232|46=>262|47=>210|48=>211|49=>263|50=>264|57=>281|n=>n,λ|22=>152|24=>185|25=>239|3=>3|39=>208|0=>0|53=>292|55=>294|4=>4|46=>284|45=>283|50=>289|5=>5|9=>9|66=>344|70=>348|76=>372|77=>330|n=>n,λ|n=>n⟩
theorem Tryz.sortU:Go.Proofs.SlLaysF0.n6 prog Tryz.sortU_ren:={
 mixed:=by kernel_rfl
 f6:=⟨Tryz.f119.name,by decide,func119.trans (congrArg some (by kernel_rfl))⟩
 f14:=⟨Tryz.f181.name,by decide,func181.trans (congrArg some (by kernel_rfl))⟩
 f15:=func109.trans (congrArg some (by kernel_rfl))
 f20:=⟨Tryz.f225.name,by decide,func225.trans (congrArg some (by kernel_rfl))⟩
 f21:=⟨Tryz.f226.name,by decide,func226.trans (congrArg some (by kernel_rfl))⟩
 f22:=⟨Tryz.f227.name,by decide,func227.trans (congrArg some (by kernel_rfl))⟩
 f23:=⟨Tryz.f228.name,by decide,func228.trans (congrArg some (by kernel_rfl))⟩
 f24:=⟨Tryz.f229.name,by decide,func229.trans (congrArg some (by kernel_rfl))⟩
 f25:=⟨Tryz.f230.name,by decide,func230.trans (congrArg some (by kernel_rfl))⟩
 f26:=⟨Tryz.f231.name,by decide,func231.trans (congrArg some (by kernel_rfl))⟩
 f27:=⟨Tryz.f232.name,by decide,func232.trans (congrArg some (by kernel_rfl))⟩
 f28:=func170.trans (congrArg some (by kernel_rfl))
 f29:=func171.trans (congrArg some (by kernel_rfl))
 f46:=⟨Tryz.f262.name,by decide,func262.trans (congrArg some (by kernel_rfl))⟩
 f47:=func210.trans (congrArg some (by kernel_rfl))
 f48:=func211.trans (congrArg some (by kernel_rfl))
 f49:=⟨Tryz.f263.name,by decide,func263.trans (congrArg some (by kernel_rfl))⟩
 f50:=⟨Tryz.f264.name,by decide,func264.trans (congrArg some (by kernel_rfl))⟩
 f57:=⟨Tryz.f281.name,by decide,func281.trans (congrArg some (by kernel_rfl))⟩
 t0:=underlying0
 a0:=isAgg0
 z0:=sizeOf0
 v0:=zeroValue0
 t3:=underlying3
 a3:=isAgg3
 z3:=sizeOf3
 v3:=zeroValue3
 t4:=underlying4
 a4:=isAgg4
 z4:=sizeOf4
 v4:=zeroValue4
 t5:=underlying5
 a5:=isAgg5
 z5:=sizeOf5
 v5:=zeroValue5
 t9:=underlying9
 a9:=isAgg9
 z9:=sizeOf9
 v9:=zeroValue9
 t22:=underlying152
 a22:=isAgg152
 z22:=sizeOf152
 v22:=zeroValue152
 t25:=underlying239
 a25:=isAgg239
 z25:=sizeOf239
 v25:=zeroValue239
 t39:=underlying208
 a39:=isAgg208
 z39:=sizeOf208
 v39:=zeroValue208
 t45:=underlying283
 a45:=isAgg283
 z45:=sizeOf283
 v45:=zeroValue283
 t46:=underlying284
 a46:=isAgg284
 z46:=sizeOf284
 v46:=zeroValue284
 t50:=underlying289
 a50:=isAgg289
 z50:=sizeOf289
 v50:=zeroValue289
 t53:=underlying292
 a53:=isAgg292
 z53:=sizeOf292
 v53:=zeroValue292
 t55:=underlying294
 a55:=isAgg294
 z55:=sizeOf294
 v55:=zeroValue294
 t66:=underlying344
 a66:=isAgg344
 z66:=sizeOf344
 v66:=zeroValue344
 t70:=underlying348
 a70:=isAgg348
 z70:=sizeOf348
 v70:=zeroValue348
 t76:=underlying372
 a76:=isAgg372
 z76:=sizeOf372
 v76:=zeroValue372
 t77:=underlying330
 a77:=isAgg330
 z77:=sizeOf330
 v77:=zeroValue330}
end Go.Proofs
namespace Go.Proofs.YtpmmjkiclngpmaaGreatDoor
open Tryz
open Go.RowKit
variable{w:World}{l:List (Nm×Nm)}{g cap b:Nat}{sf:Nm×Nm->List UInt8}
theorem vV(s:ByteArray)(w:World):Calls prog 182 #[.string s] w λe w'=>e=.returned (.bool false)/\w'=w:=by
 go_enter func182,ntmps182
 go_wp2;go_ret;exact⟨rfl,rfl⟩
theorem fS:∀a b:List UInt8,Op.bytesLess a b=bytesBefore a b
 | [],[]=>rfl
 | [],_::_=>rfl
 |_::_,[]=>rfl
 |x::r,y::s=>by
  unfold Op.bytesLess bytesBefore;rw [fS r s]
def sK(a b:List UInt8):Int:=if bytesBefore a b then-1 else if bytesBefore b a then 1 else 0
theorem yJ(a b:ByteArray)(w:World):Calls prog 122 #[.string a,.string b] w λe w'=>e=.returned (.int .i64 (sK a.data.toList b.data.toList))/\w'=w:=by
 have HB:=aa (fS a.toList b.toList);have HT:=aa (show a.toList=a.data.toList/\b.toList=b.data.toList from⟨ByteArray.toList_eq a,ByteArray.toList_eq b⟩)
 rcases h1:Op.bytesLess a.toList b.toList with _|_
 ·rcases h2:(a.toList==b.toList)with _|_
  ·have HV:=aa (show sK a.data.toList b.data.toList=1 by
    rw [<-HT.o.1,<-HT.o.2];unfold sK;rw [<-HB.o,h1,if_neg (by simp)]
    rcases WideAt.bytes_total a.toList b.toList (by simpa using h2)with h|h
    ·rw [<-HB.o,h1]at h;cases h
    ·rw [if_pos h])
   go_enter func122,ntmps122
   go_wp2_with (go_at_call 182;refine(vV _ _).mono ?_;rintro e w' ⟨rfl,rfl⟩)
   go_ret;exact⟨bR (by rw [HV.o]),rfl⟩
  ·have HV:=aa (show sK a.data.toList b.data.toList=0 by
    rw [<-HT.o.1,<-HT.o.2]
    have:a.toList=b.toList:=by simpa using h2
    unfold sK;rw [this,WideAt.bytes_irrefl]
    rfl)
   go_enter func122,ntmps122
   go_wp2_with (go_at_call 182;refine(vV _ _).mono ?_;rintro e w' ⟨rfl,rfl⟩)
   go_ret;exact⟨bR (by rw [HV.o]),rfl⟩
 have HV:=aa (show sK a.data.toList b.data.toList= -1 by
  rw [<-HT.o.1,<-HT.o.2];unfold sK;rw [<-HB.o,h1]
  rfl)
 go_enter func122,ntmps122
 go_wp2_with (go_at_call 182;refine(vV _ _).mono ?_;rintro e w' ⟨rfl,rfl⟩)
 go_ret;exact⟨bR (by rw [HV.o]),rfl⟩
def XN(x y:Int):Int:=if x=0 then y else x
theorem C3(W:World)(a b:Obj)(u v:Value)(t:TypeId):W.heap.size+1+1<(((W.alloc a).alloc b).alloc (.cells #[u,v] t)).drew.heap.size/\(((W.alloc a).alloc b).alloc (.cells #[u,v] t)).drew.cell? ⟨W.heap.size+1+1,0,none⟩=some u/\(((W.alloc a).alloc b).alloc (.cells #[u,v] t)).drew.cell? ⟨W.heap.size+1+1,1,none⟩=some v:=by
 have e:((W.alloc a).alloc b).heap.size=W.heap.size+1+1:=by simp
 have h:=aF ((W.alloc a).alloc b) (.cells #[u,v] t);rw [e]at h;have h':(((W.alloc a).alloc b).alloc (.cells #[u,v] t)).drew.heap[W.heap.size+1+1]?=some (.cells #[u,v] t (0,0)):=h;exact⟨af h',ae h' 0,ae h' 1⟩
theorem Nu(W:World)(a b c:Obj):(((W.alloc a).alloc b).alloc c).drew=Go.Sort.grow (W.drewN 1) #[a,b,c]:=by
 rw [Go.Sort.alloc_eq_grow,Go.Sort.alloc_eq_grow,Go.Sort.alloc_eq_grow,Go.Sort.grow_grow,Go.Sort.grow_grow,Go.Sort.drew_grow]
 rfl
theorem Vg(b:Nat)(x y:Int)(w:World)(hb:b<w.heap.size)(h0:w.cell? ⟨b,0,none⟩=some (.int .i64 x))(h1:w.cell? ⟨b,1,none⟩=some (.int .i64 y)):
  Calls prog 121 #[.slice (some ⟨b,0,none⟩) 2 2] w λe w'=>e=.returned (.int .i64 (XN x y))/\w'=w:=by
 go_enter func121,ntmps121
 go_wp2
 go_loop [8] (λi=>∃j:Nat,j<=2/\i=.int .i64 j/\Hy ((1<=j->x=0)/\(2<=j->y=0))) (λi=>2-(intOf i).toNat)
 case atStart=>exact⟨0,Nat.zero_le _,rfl,λh=>by omega,λh=>by omega⟩
 obtain⟨j,hj,rfl,HR⟩:=hrel
 rcases (show j=0\/j=1\/j=2 by omega)with rfl|rfl|rfl
 ·by_cases hx:x=0
  ·subst hx
   go_wp2
   go_round
   case rel=>exact⟨1,by omega,rfl,by show(_->_)/\_;exact⟨by simp,by simp⟩⟩
   case measure=>simp [intOf]
  ·go_wp2
   go_ret;exact⟨bR (by unfold XN;rw [if_neg hx]),rfl⟩
 ·have HX:=aa (HR.o.1 (by omega))
  by_cases hy:y=0
  ·subst hy
   go_wp2
   go_round
   case rel=>exact⟨2,by omega,rfl,by show(_->_)/\_;exact⟨λ_=>HX.o,by simp⟩⟩
   case measure=>simp [intOf]
  ·go_wp2
   go_ret;exact⟨bR (by unfold XN;rw [if_pos HX.o]),rfl⟩
 have HX:=aa (HR.o.1 (by omega));have HY:=aa (HR.o.2 (by omega));go_wp2;go_ret;exact⟨bR (by unfold XN;rw [if_pos HX.o,HY.o]),rfl⟩
def Kp(x y:Nm×Nm):Int:=XN (sK x.1 y.1) (sK x.2 y.2)
def nM(sf:Nm×Nm->List UInt8)(x:Nm×Nm):List Value:= [.string ⟨x.1.toArray⟩,.string ⟨x.2.toArray⟩,.string ⟨(sf x).toArray⟩]
theorem Kq(sf:Nm×Nm->List UInt8)(x y:Nm×Nm)(W:World):
  Calls prog 120 #[.agg (nM sf x).toArray,.agg (nM sf y).toArray] W λe w'=>e=.returned (.int .i64 (Kp x y))/\∃q os,w'=Go.Sort.grow (W.drewN q) os:=by
 show Calls prog 120 #[.agg #[.string ⟨x.1.toArray⟩,.string ⟨x.2.toArray⟩,.string ⟨(sf x).toArray⟩],.agg #[.string ⟨y.1.toArray⟩,.string ⟨y.2.toArray⟩,.string ⟨(sf y).toArray⟩]] W _
 go_enter func120,ntmps120
 go_wp2_with fail
 go_region_law (first
  |(refine fp rfl 122 #[.tmp 6,.tmp 8] #[9,9] rfl Tryz.call122 #[.string ⟨x.1.toArray⟩,.string ⟨y.1.toArray⟩] ?_ (yJ _ _ _) ?_;(simp [Act.eval,Act.put]);rintro e w3 ⟨rfl,rfl⟩;refine⟨_,rfl,?_⟩)
  |(refine fp rfl 122 #[.tmp 11,.tmp 13] #[9,9] rfl Tryz.call122 #[.string ⟨x.2.toArray⟩,.string ⟨y.2.toArray⟩] ?_ (yJ _ _ _) ?_;(simp [Act.eval,Act.put]);rintro e w3 ⟨rfl,rfl⟩;refine⟨_,rfl,?_⟩)
  |(refine fp rfl 121 #[.tmp 15] #[25] rfl Tryz.call121 #[.slice (some ⟨W.heap.size+1+1,0,none⟩) 2 2] ?_ (Vg (W.heap.size+1+1) (sK x.1 y.1) (sK x.2 y.2) _ ?_ ?_ ?_) ?_;(simp [Act.eval,Act.put]);(exact(C3 W _ _ _ _ _).1);(exact(C3 W _ _ _ _ _).2.1);(exact(C3 W _ _ _ _ _).2.2);rintro e w3 ⟨rfl,rfl⟩;refine⟨_,rfl,?_⟩))
 all_goals
  (try go_wp2_with fail)
  go_ret;exact⟨rfl,1,_,Nu W _ _ _⟩
theorem R1:prog.underlying 185=some (.struct (prog.fieldsOf 185)):=by kernel_rfl
theorem Nv:prog.stoodInHeld 185=false:=by kernel_rfl
abbrev Kr(sf:Nm×Nm->List UInt8)(x:Nm×Nm):Value:=.agg #[.string ⟨x.1.toArray⟩,.string ⟨x.2.toArray⟩,.string ⟨(sf x).toArray⟩]
theorem rT(sf:Nm×Nm->List UInt8)(x y:Nm×Nm)(w:World):(Op.equalIn 10000 185 (Kr sf x) (Kr sf y)).run prog w=.ok (decide (x=y)) w:=by
 rw [show(10000:Nat)=9999+1 from rfl,run_equalIn_agg w 9999 185 _ _ R1 Nv];simp only [Program.fieldsOf,underlying185];have u9:=underlying9;have a9:=isAgg9;have z9:=sizeOf9
 go_simp
 by_cases h:x=y
 ·subst h;simp
 rw [decide_eq_false h]
 split
 ·next h1=>
  split
  ·next h2=>exact absurd (Prod.ext h1 h2) h
  ·rfl
 rfl
theorem Be(sf:Nm×Nm->List UInt8)(op:BinOp)(a b:Operand)(x y:Nm×Nm)(w:World):(eqGuard op 185 a b (Kr sf x) (Kr sf y)).run prog w=.ok () w:=run_eqGuard_agg w op 185 a b _ _ (by kernel_rfl)
def iR(P:List (Nm×Nm))(y:Nm×Nm):List (Nm×Nm):=if P.getLast?=some y then P else P++ [y]
def bT(l:List (Nm×Nm)):List (Nm×Nm):=l.foldl iR []
theorem iT(l:List (Nm×Nm))(y:Nm×Nm):bT (l++ [y])=iR (bT l) y:=by simp [bT,List.foldl_append]
theorem GI(P:List (Nm×Nm))(y:Nm×Nm):(iR P y).getLast?=some y:=by
 unfold iR
 split
 ·next h=>exact h
 simp
theorem td(l:List (Nm×Nm))(i:Nat)(hi:i<l.length):(bT (l.take (i+1))).getLast?=some l[i]:=by
 rw [List.take_succ_eq_append_getElem hi,iT,GI]
theorem Ks(P:List (Nm×Nm))(y:Nm×Nm):(iR P y).length<=P.length+1/\P.length<=(iR P y).length:=by
 unfold iR
 split
 ·omega
 simp
theorem uK(l:List (Nm×Nm))(i:Nat)(hi:i<=l.length):(bT (l.take i)).length<=i:=by
 induction i with
 |zero=>simp [bT]
 |succ i ih=>
  rw [List.take_succ_eq_append_getElem (by omega),iT];have:=(Ks (bT (l.take i)) l[i]).1;have:=ih (by omega);omega
def dz(sf:Nm×Nm->List UInt8)(l:List (Nm×Nm)):List Value:=l.flatMap (nM sf)
theorem mE(sf:Nm×Nm->List UInt8)(l:List (Nm×Nm)):(dz sf l).length=l.length*3:=by
 induction l with
 |nil=>rfl
 |cons x r ih=>
  rw [show dz sf (x::r)=nM sf x++dz sf r from rfl,List.length_append,ih];simp [nM];omega
theorem pX(sf:Nm×Nm->List UInt8)(l r:List (Nm×Nm)):dz sf (l++r)=dz sf l++dz sf r:=by simp [dz]
theorem qR(sf:Nm×Nm->List UInt8)(l:List (Nm×Nm))(j:Nat)(hj:j<l.length):(dz sf l)[j*3]?=some (.string ⟨l[j].1.toArray⟩)/\(dz sf l)[j*3+1]?=some (.string ⟨l[j].2.toArray⟩)/\(dz sf l)[j*3+2]?=some (.string ⟨(sf l[j]).toArray⟩):=by
 induction l generalizing j with
 |nil=>simp at hj
 |cons x r ih=>
  rw [show dz sf (x::r)=nM sf x++dz sf r from rfl]
  cases j with
  |zero=>simp [nM]
  |succ j=>
   have:=ih j (by simpa using hj);rw [show(j+1)*3=j*3+3 by omega];simp only [nM,List.cons_append,List.nil_append,List.getElem?_cons_succ,List.getElem_cons_succ];exact this
structure jT (sf:Nm×Nm->List UInt8) (g cap:Nat) (l:List (Nm×Nm)) (w:World):Prop where
 blk:∃aU,w.heap[g]?=some (.cells aU 185 (0,0))/\aU.size=cap*3/\aU.toList.take (l.length*3)=dz sf l
theorem jT.lt(h:jT sf g cap l w):g<w.heap.size:=by obtain⟨aU,a,_⟩:=h.blk;exact af a
theorem jT.free(h:jT sf g cap l w):∀o,w.frozen? ⟨g,o,none⟩=false:=by obtain⟨aU,a,_⟩:=h.blk;exact aj a
theorem jT.at(h:jT sf g cap l w)(j:Nat)(hj:j<l.length):
  w.cell? ⟨g,j*3,none⟩=some (.string ⟨l[j].1.toArray⟩)/\w.cell? ⟨g,j*3+1,none⟩=some (.string ⟨l[j].2.toArray⟩)/\w.cell? ⟨g,j*3+2,none⟩=some (.string ⟨(sf l[j]).toArray⟩):=by
 obtain⟨aU,a,b,c⟩:=h.blk
 have hc:∀i,i<l.length*3->w.cell? ⟨g,i,none⟩=(dz sf l)[i]?:=λi hi=>by
  rw [ae a,<-c,List.getElem?_take,if_pos hi];simp
 have:=qR sf l j hj;rw [hc _ (by omega),hc _ (by omega),hc _ (by omega)];exact this
theorem jT.below{w':World}(h:jT sf g cap l w)(hb:Below w.heap.size w w'):jT sf g cap l w':=by
 obtain⟨aU,a,b⟩:=h.blk;exact⟨aU,(hb.block _ (af a)).trans a,b⟩
theorem jT.set(h:jT sf g cap l w)(hc:l.length<=cap)(j:Nat)(hj:j<l.length)(y:Nm×Nm):
  jT sf g cap (l.set j y) (((w.setCell ⟨g,j*3,none⟩ (.string ⟨y.1.toArray⟩)).setCell ⟨g,j*3+1,none⟩ (.string ⟨y.2.toArray⟩)).setCell ⟨g,j*3+2,none⟩ (.string ⟨(sf y).toArray⟩)):=by
 obtain⟨aU,a,b,c⟩:=h.blk;refine⟨_,ax (ax (ax a _ _) _ _) _ _,by simpa using b,?_⟩;rw [List.length_set]
 apply List.ext_getElem?
 intro i;rw [List.getElem?_take];have hl:=mE sf (l.set j y);rw [List.length_set]at hl
 split
 ·next hi=>
  have q:i/3<l.length:=by omega
  have hat:=qR sf (l.set j y) (i/3) (by simpa using q);have Vh:=qR sf l (i/3) q
  have gm:aU[i]?=(dz sf l)[i]?:=by rw [<-c,List.getElem?_take,if_pos hi];simp
  have hsz:i<aU.size:=by rw [b];have:l.length*3<=cap*3:=Nat.mul_le_mul_right 3 hc;omega
  simp only [Array.toList_setIfInBounds,List.getElem?_set,List.length_set,Array.length_toList,Array.getElem?_toList]
  rcases (show i=(i/3)*3\/i=(i/3)*3+1\/i=(i/3)*3+2 by omega)with e|e|e
  ·by_cases I':i/3=j
   ·subst I'
    rw [if_neg (by omega),if_neg (by omega),if_pos (by omega),if_pos (by omega)];have:=hat.1;rw [<-e]at this;rw [this,List.getElem_set_self]
   ·rw [if_neg (by omega),if_neg (by omega),if_neg (by omega),gm]
    have h1:=hat.1;have h2:=Vh.1;rw [<-e]at h1 h2;rw [h1,h2,List.getElem_set_ne (λe=>I' e.symm)]
  ·by_cases I':i/3=j
   ·subst I'
    rw [if_neg (by omega),if_pos (by omega),if_pos (by omega)];have:=hat.2.1;rw [<-e]at this;rw [this,List.getElem_set_self]
   ·rw [if_neg (by omega),if_neg (by omega),if_neg (by omega),gm]
    have h1:=hat.2.1;have h2:=Vh.2.1;rw [<-e]at h1 h2;rw [h1,h2,List.getElem_set_ne (λe=>I' e.symm)]
  ·by_cases I':i/3=j
   ·subst I'
    rw [if_pos (by omega),if_pos (by omega)];have:=hat.2.2;rw [<-e]at this;rw [this,List.getElem_set_self]
   ·rw [if_neg (by omega),if_neg (by omega),if_neg (by omega),gm]
    have h1:=hat.2.2;have h2:=Vh.2.2;rw [<-e]at h1 h2;rw [h1,h2,List.getElem_set_ne (λe=>I' e.symm)]
 next hi=>exact(List.getElem?_eq_none (by omega)).symm
theorem yK{w:World}{t:TypeId}{f:Nat×Nat}:∀(vs:List Value) (o:Nat) (aU:Array Value) (w:World),w.heap[b]?=some (.cells aU t f)->∃cur',(w.setCells b o vs).heap[b]?=some (.cells cur' t f)/\cur'.size=aU.size/\∀i,i<o->cur'[i]?=aU[i]?:=by
 intro vs
 induction vs with
 |nil=>intro o aU w h;exact⟨aU,h,rfl,λ_ _=>rfl⟩
 |cons v r ih=>
  intro o aU w h;obtain⟨cur',a,b',c⟩:=ih (o+1) _ _ (ax h o v);refine⟨cur',a,by simpa using b',λi hi=> ?_⟩;rw [c i (by omega),Array.getElem?_setIfInBounds_ne (by omega)]
theorem ie{k:Nat}(hk:k≠b):∀(vs:List Value) (o:Nat) (w:World),(w.setCells b o vs).heap[k]?=w.heap[k]?/\(w.setCells b o vs).heap.size=w.heap.size/\(w.setCells b o vs).os=w.os/\(w.setCells b o vs).tape=w.tape/\(w.setCells b o vs).output=w.output:=by
 intro vs
 induction vs with
 |nil=>intro o w;exact⟨rfl,rfl,rfl,rfl,rfl⟩
 |cons v r ih=>
  intro o w;obtain⟨a,b',c,d,e⟩:=ih (o+1) (w.setCell ⟨b,o,none⟩ v);exact⟨a.trans (Below.heap_setCell w ⟨b,o,none⟩ v k hk),b'.trans (by simp [World.setCell]),c,d,e⟩
end Go.Proofs.YtpmmjkiclngpmaaGreatDoor
