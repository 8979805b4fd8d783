/- YtpmmjkiclngpmaaGreatDoorB11 -/
import Derived.Test.YtpmmjkiclngpmaaGreatDoorB10
set_option maxRecDepth 100000
set_option linter.unusedSimpArgs false
set_option linter.unusedVariables false
set_option maxHeartbeats 12800000
namespace Go.Proofs.YtpmmjkiclngpmaaGreatDoor
open Tryz
open Go.RowKit
variable{c:List (Nat×Int)}{s t:CS}
abbrev Sym:=List UInt8×List UInt8
variable{pl:Sym->Nat}
def yF(pl:Sym->Nat)(all:List Sym)(x:Nat×Int):Nat×Int:=if x.1=5 then(5,((pl (all.getD x.2.toNat ([],[])):Nat):Int))else x
theorem Ru(pl:Sym->Nat)(all:List Sym)(x:Nat×Int):(yF pl all x).1=x.1:=by
 unfold yF;split
 ·next h=>exact h.symm
 rfl
def Gn(pl:Sym->Nat)(s t:CS)(c:List (Nat×Int)):Prop:=
 ∃d k,t.aK=s.aK++d/\t.bq=s.bq++k/\(∀rest,d.map (yF pl (t.bq++rest))=c)/\∀x∈d,x.1=5->0<=x.2/\x.2.toNat<t.bq.length
theorem Gn.len(h:Gn pl s t c):t.aK.length=s.aK.length+c.length:=by
 obtain⟨d,k,h1,h2,h3,_⟩:=h;rw [h1,List.length_append,<-h3 [],List.length_map]
theorem Gn.refl(pl:Sym->Nat)(s:CS):Gn pl s s []:=⟨[],[],by simp,by simp,by simp,by simp⟩
theorem Gn.trans{u:CS}{d:List (Nat×Int)}(h:Gn pl s t c)(g:Gn pl t u d):Gn pl s u (c++d):=by
 obtain⟨d1,k1,a1,a2,a3,a4⟩:=h;obtain⟨d2,k2,b1,b2,b3,b4⟩:=g;refine⟨d1++d2,k1++k2,by rw [b1,a1,List.append_assoc],by rw [b2,a2,List.append_assoc],λrest=> ?_,λx hx h5=> ?_⟩
 ·rw [List.map_append,b3 rest,<-a3 (k2++rest),b2,List.append_assoc]
 rcases List.mem_append.1 hx with hx|hx
 ·have:=a4 x hx h5
  rw [b2,List.length_append];omega
 exact b4 x hx h5
theorem Gn.emit(pl:Sym->Nat)(s:CS)(op:Nat)(v:Int)(h:op≠5):Gn pl s (s.emit op v) [(op,v)]:=
 ⟨[(op,v)],[],rfl,by simp [CS.emit],λrest=>by simp [yF,h],λx hx h5=>by simp only [List.mem_singleton]at hx;subst hx;exact absurd h5 h⟩
theorem Gn.ia(pl:Sym->Nat)(s:CS)(x:Sym):Gn pl s (s.ia x) [(5,((pl x:Nat):Int))]:=
 ⟨[(5,(s.bq.length:Int))],[x],rfl,rfl,λrest=>by simp [yF,CS.ia,CS.emit,List.getD,List.getElem?_append_right],λx hx h5=>by simp only [List.mem_singleton]at hx;subst hx;simp [CS.ia,CS.emit]⟩
theorem Rv{α:Type}(a b:List α)(x y:α):(a++ [x]++b).set a.length y=a++ [y]++b:=by
 induction a with
 |nil=>rfl
 |cons z a ih=>simp only [List.cons_append,List.length_cons,List.set_cons_succ];rw [ih]
theorem Gn.land{a b:List (Nat×Int)}{op:Nat}{v:Int}(h:Gn pl s t (a++ [(op,v)]++b))(ho:op≠5)(j:Nat)(hj:j=s.aK.length+a.length):
  Gn pl s (t.land j) (a++ [(op,(t.aK.length:Int))]++b):=by
 obtain⟨d,k,h1,h2,h3,h4⟩:=h;subst hj
 have hd:d.length=a.length+1+b.length:=by have:=congrArg List.length (h3 []);simp at this;omega
 have hlt:a.length<d.length:=by omega
 have hop:(d[a.length]).1=op:=by
  have e:(d.map (yF pl (t.bq++ [])))[a.length]?=some (op,v):=by rw [h3 []];simp
  rw [List.getElem?_map,List.getElem?_eq_getElem hlt]at e;simp only [Option.map_some,Option.some.injEq]at e;rw [<-Ru pl (t.bq++ []),e]
 refine⟨d.set a.length (op,(t.aK.length:Int)),k,?_,h2,λrest=> ?_,λx hx h5=> ?_⟩
 ·show t.aK.set _ _=_
  have hg:(t.aK.getD (s.aK.length+a.length) (0,0)).1=op:=by
   rw [h1,List.getD,List.getElem?_append_right (by omega),Nat.add_sub_cancel_left,List.getElem?_eq_getElem hlt];exact hop
  rw [hg];have hl:(t.aK.length:Int)=(t.aK.length:Int):=rfl;generalize (t.aK.length:Int)=n;rw [h1,List.set_append_right _ _ (by omega),Nat.add_sub_cancel_left]
 ·show(d.set _ _).map (yF pl (t.bq++rest))=_
  rw [List.map_set,h3 rest,Rv];simp [yF,ho]
 rcases List.mem_or_eq_of_mem_set hx with hx|rfl
 ·exact h4 x hx h5
 exact absurd h5 ho
theorem Rw{g:Ex->CS->CS}{C:List (List UInt8)->Nat->Ex->List (Nat×Int)}(l:List Ex)(h:∀x∈l,∀s,Gn pl s (g x s) (C s.az s.aK.length x)/\(g x s).az=s.az)(s:CS):
  Gn pl s (gG g l s) (XK (C s.az) s.aK.length l):=by
 induction l generalizing s with
 |nil=>exact Gn.refl _ _
 |cons x r ih=>
  have h1:=h x (by simp) s;have h2:=ih (λy hy=>h y (by simp [hy])) (g x s);rw [h1.2,h1.1.len]at h2;exact h1.1.trans h2
theorem Rx(k:Nat):tL k≠5:=by unfold tL;split<;>omega
theorem Vc(fnd:wY)(pl:Sym->Nat)(m:Nat):∀(e:Ex) (s:CS),Gn pl s (gen fnd m e s) (cg (λn=>pl (fnd.sym n)) m s.az s.aK.length e):=by
 induction m with
 |zero=>intro e s;exact Gn.refl _ _
 |succ m ih=>
  intro e s
  have hs:∀(x:Ex) (s:CS),(gen fnd m x s).az=s.az:=λx s=>(gH fnd m x s).az
  have hall:∀l:List Ex,Gn pl s (gG (gen fnd m) l s) (XK (cg (λn=>pl (fnd.sym n)) m s.az) s.aK.length l):=λl=>Rw (g:=gen fnd m) (C:=cg (λn=>pl (fnd.sym n)) m) l (λx _ s=>⟨ih x s,hs x s⟩) s
  unfold gen cg
  split
  ·exact Gn.emit _ _ _ _ (by omega)
  split
  ·exact Gn.emit _ _ _ _ (by omega)
  split
  ·exact hall _
  split
  ·match e.aw with
   | [a,b,c]=>
    simp only;unfold CS.ifs;have h1:=ih a s;have hs1:=hs a s;generalize gen fnd m a s=s1 at*;have h2:=h1.trans (Gn.emit pl s1 4 0 (by omega));have h3:=ih b (s1.emit 4 0);have hs3:=hs b (s1.emit 4 0);have e3:(s1.emit 4 0).az=s.az:=hs1;rw [e3]at h3 hs3;rw [h2.len]at h3;generalize gen fnd m b (s1.emit 4 0)=s3 at*;have h4:=(h2.trans h3).trans (Gn.emit pl s3 3 0 (by omega));simp only [List.length_append,List.length_cons,List.length_nil,Nat.zero_add]at h3 h4;generalize cg (λn=>pl (fnd.sym n)) m s.az s.aK.length a=x at*;rw [show s.aK.length+(x.length+1)=s.aK.length+x.length+1 by omega]at h3 h4;generalize cg (λn=>pl (fnd.sym n)) m s.az (s.aK.length+x.length+1) b=y at*;have oT:=h1.len;have iY:=(h2.trans h3).len;simp only [List.length_append,List.length_cons,List.length_nil,Nat.zero_add]at iY;rw [List.append_assoc (x++ [(4,0)])]at h4;have h5:=h4.land (by omega) s1.aK.length oT
    have hn5:((s3.emit 3 0).aK.length:Int)=((s.aK.length+x.length+1+y.length+1:Nat):Int):=by simp [CS.emit];omega
    rw [hn5]at h5;have h6:=ih c ((s3.emit 3 0).land s1.aK.length);have e6:((s3.emit 3 0).land s1.aK.length).az=s.az:=hs3;have XM:=h5.len;simp only [List.length_append,List.length_cons,List.length_nil,Nat.zero_add]at XM;rw [e6,XM,show s.aK.length+(x.length+1+(y.length+1))=s.aK.length+x.length+1+y.length+1 by omega]at h6;generalize gen fnd m c ((s3.emit 3 0).land s1.aK.length)=s6 at*;generalize cg (λn=>pl (fnd.sym n)) m s.az (s.aK.length+x.length+1+y.length+1) c=z at*;have h7:=h5.trans h6;have YG:=h7.len;simp only [List.length_append,List.length_cons,List.length_nil,Nat.zero_add]at YG;rw [show x++ [(4,((s.aK.length+x.length+1+y.length+1:Nat):Int))]++(y++ [(3,0)])++z=(x++ [(4,((s.aK.length+x.length+1+y.length+1:Nat):Int))]++y)++ [(3,0)]++z by simp]at h7;have h8:=h7.land (by omega) s3.aK.length (by simp;omega);rw [show(s6.aK.length:Int)=((s.aK.length+x.length+1+y.length+1+z.length:Nat):Int) by omega]at h8;exact h8
   | []=>exact Gn.refl _ _
   | [_]=>exact Gn.refl _ _
   | [_,_]=>exact Gn.refl _ _
   |_::_::_::_::_=>exact Gn.refl _ _
  split
  ·match e.aw with
   | [a,b]=>
    simp only;unfold CS.lets;have h1:=ih a s;have hs1:=hs a s;generalize gen fnd m a s=s1 at*
    have h2:Gn pl s ((s1.enter e.ag).emit 2 s1.az.length) (cg (λn=>pl (fnd.sym n)) m s.az s.aK.length a++ [(2,(s.az.length:Int))]):=by
     rw [hs1];exact Gn.trans (t:=s1.enter e.ag) h1 (Gn.emit pl _ 2 _ (by omega))
    have h3:=ih b ((s1.enter e.ag).emit 2 s1.az.length)
    have e3:((s1.enter e.ag).emit 2 s1.az.length).az=s.az++ [e.ag]:=by rw [<-hs1];rfl
    rw [e3,h2.len]at h3;simp only [List.length_append,List.length_cons,List.length_nil,Nat.zero_add]at h3;rw [<-Nat.add_assoc]at h3;exact h2.trans h3
   | []=>exact Gn.refl _ _
   | [_]=>exact Gn.refl _ _
   |_::_::_::_=>exact Gn.refl _ _
  split
  ·exact(hall _).trans (Gn.ia pl _ _)
  ·exact(hall _).trans (Gn.emit pl _ _ _ (Rx _))
end Go.Proofs.YtpmmjkiclngpmaaGreatDoor
