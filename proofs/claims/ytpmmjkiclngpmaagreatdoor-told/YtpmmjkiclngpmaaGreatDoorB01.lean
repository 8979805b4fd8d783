/- YtpmmjkiclngpmaaGreatDoorB01 -/
import Derived.Test.YtpmmjkiclngpmaaGreatDoorProg
import Derived.WalkKit
import Derived.WalkSpells
import Derived.WalkLawsBesides
set_option maxRecDepth 100000
set_option linter.unusedSimpArgs false
set_option linter.unusedVariables false
set_option maxHeartbeats 12800000
namespace Go.Proofs.YtpmmjkiclngpmaaGreatDoor
open Tryz
def bP(n:Int):Bool:=decide (97<=n)&&decide (n<=122)
def ba(n:Int):Bool:=decide (48<=n)&&decide (n<=57)
def bm(n:Int):Bool:=(n==32)||(n==10)
def aS(n:Int):Bool:=bP n||ba n
def aT(pb:Int->Bool):List UInt8->Nat
 | []=>0
 |c::r=>if pb (c.toNat:Int)then aT pb r+1 else 0
theorem jy(pb:Int->Bool)(l:List UInt8):aT pb l<=l.length:=by
 induction l with
 |nil=>simp [aT]
 |cons c r ih=>simp only [aT,List.length_cons];split<;>omega
theorem nS(pb:Int->Bool)(l:List UInt8)(k:Nat)(hk:k<l.length)(hall:∀j,(h:j<k)->pb (l[j].toNat:Int)=true)(hp:pb (l[k].toNat:Int)=false):aT pb l=k:=by
 induction l generalizing k with
 |nil=>simp at hk
 |cons c r ih=>
  cases k with
  |zero=>simp at hp;simp [aT,hp]
  |succ k=>
   have h0:=hall 0 (by omega);simp at h0;simp only [aT,h0,if_true];rw [ih k (by simpa using hk) (λj h=>by have:=hall (j+1) (by omega);simpa using this) (by simpa using hp)]
theorem pN(pb:Int->Bool)(l:List UInt8)(hall:∀j,(h:j<l.length)->pb (l[j].toNat:Int)=true):aT pb l=l.length:=by
 induction l with
 |nil=>rfl
 |cons c r ih=>
  have h0:=hall 0 (by simp);simp at h0;simp only [aT,h0,if_true,List.length_cons];rw [ih (λj h=>by have:=hall (j+1) (by simpa using h);simpa using this)]
theorem tF(pb:Int->Bool)(c:UInt8)(r:List UInt8)(h:pb (c.toNat:Int)=true):1<=aT pb (c::r):=by
 simp [aT,h]
def cr:List (List UInt8):= [[117,115,101],[112,117,98],[102,110],[105,102],[116,104,101,110],[101,108,115,101],[108,101,116],[105,110],[116,114,117,101],[102,97,108,115,101],[105,110,116],[98,111,111,108]]
def bS(t:List UInt8):Bool:=cr.contains t
def dM(t:List UInt8):Nat:=if 8<t.length then 1 else if bS t then 4 else 2
def fK(n:Int):Bool:=(n==40)||(n==41)||(n==58)||(n==44)||(n==59)||(n==60)||(n==43)||(n==45)||(n==42)||(n==47)||(n==33)
def bB(l:List UInt8):Nat×Nat:=
 match l with
 | []=>(1,1)
 |c::r=>
  if(c.toNat:Int)==61 then(match r with| []=>(4,1)|d::_=>if(d.toNat:Int)==61 then(4,2)else(4,1))
  else if fK (c.toNat:Int)then(4,1)else(1,1)
def aV(l:List UInt8):Nat×Nat:=
 match l with
 | []=>(1,1)
 |c::_=>
  if bP (c.toNat:Int)then(dM (l.take (aT aS l)),aT aS l)
  else if ba (c.toNat:Int)then(if 9<aT ba l then 1 else 3,aT ba l)
  else bB l
theorem Cm(c:UInt8)(r:List UInt8):1<=(bB (c::r)).2/\(bB (c::r)).2<=(c::r).length:=by
 unfold bB
 dsimp only
 split
 ·cases r with
  |nil=>simp
  |cons d r'=>dsimp only;split<;>simp
 split<;>simp
theorem gM(c:UInt8)(r:List UInt8):1<=(aV (c::r)).2/\(aV (c::r)).2<=(c::r).length:=by
 unfold aV
 dsimp only
 split
 ·rename_i h
  exact⟨tF _ _ _ (by simp [aS,h]),jy _ _⟩
 split
 ·rename_i h
  exact⟨tF _ _ _ h,jy _ _⟩
 exact Cm c r
structure Wd where
 aL:Nat
 aX:List UInt8
 ai:Nat
def fh:Nat->List UInt8->Nat->List Wd
 |0,_,_=> []
 |n+1,l,p=>
  match l.drop (aT bm l)with
  | []=> [⟨0,[],p+aT bm l⟩]
  |c::r=>⟨(aV (c::r)).1,(c::r).take (aV (c::r)).2,p+aT bm l⟩::
    fh n ((c::r).drop (aV (c::r)).2) (p+aT bm l+(aV (c::r)).2)
theorem Au(n m:Nat)(l:List UInt8)(p:Nat)(hn:l.length<n)(hm:l.length<m):fh n l p=fh m l p:=by
 induction n generalizing m l p with
 |zero=>omega
 |succ n ih=>
  cases m with
  |zero=>omega
  |succ m=>
   simp only [fh]
   cases hd:l.drop (aT bm l)with
   |nil=>rfl
   |cons c r=>
    have hb:=gM c r
    have hl:(l.drop (aT bm l)).length=(c::r).length:=by rw [hd]
    simp only [List.length_drop,List.length_cons]at hl hb;simp only [List.cons.injEq,true_and]
    refine ih m _ _ ?_ ?_<;>simp only [List.length_drop,List.length_cons]<;>omega
def aD(l:List UInt8)(p:Nat):List Wd:=fh (l.length+1) l p
theorem om(l:List UInt8)(p:Nat)(h:l.drop (aT bm l)= []):aD l p= [⟨0,[],p+aT bm l⟩]:=by
 simp only [aD,fh,h]
theorem jK(l:List UInt8)(p:Nat)(c:UInt8)(r:List UInt8)(h:l.drop (aT bm l)=c::r):
  aD l p=⟨(aV (c::r)).1,(c::r).take (aV (c::r)).2,p+aT bm l⟩::
   aD ((c::r).drop (aV (c::r)).2) (p+aT bm l+(aV (c::r)).2):=by
 have hb:=gM c r
 have hl:(l.drop (aT bm l)).length=(c::r).length:=by rw [h]
 simp only [List.length_drop,List.length_cons]at hl hb
 conv=>lhs;simp only [aD,fh,h]
 simp only [List.cons.injEq,true_and,aD]
 refine Au _ _ _ _ ?_ ?_<;>simp only [List.length_drop,List.length_cons]<;>omega
end Go.Proofs.YtpmmjkiclngpmaaGreatDoor
namespace Go.Proofs.YtpmmjkiclngpmaaGreatDoor
open Tryz
open Go.RowKit
variable{k:IntKind}{w a w' w0:World}{pb b:Nat}{ws:List Wd}{f:Nat×Nat}{c:Array Value}{x:Obj}
def Hy (p:Prop):Prop:=p
theorem Hy.o{p:Prop}(h:Hy p):p:=h
theorem aa{p:Prop}(h:p):Hy p:=h
theorem bR{a b:Int}(h:a=b):Ending.returned (.int k a)=.returned (.int k b):=by rw [h]
theorem bD{a b:Bool}(h:a=b):Ending.returned (.bool a)=.returned (.bool b):=by rw [h]
theorem jL(n:Int)(w:World):
    Calls prog 94 #[.int .u8 n] w λe w'=>e=.returned (.bool (bP n))/\w'=w:=by
  by_cases h1:97<=n<;>by_cases h2:n<=122<;>
  (go_enter func94,ntmps94
   go_wp2;go_ret
   exact⟨by simp [bP,h1,h2],rfl⟩)
theorem lg(n:Int)(w:World):
    Calls prog 136 #[.int .u8 n] w λe w'=>e=.returned (.bool (ba n))/\w'=w:=by
  by_cases h1:48<=n<;>by_cases h2:n<=57<;>
  (go_enter func136,ntmps136
   go_wp2;go_ret
   exact⟨by simp [ba,h1,h2],rfl⟩)
theorem wW(n:Int)(w:World):
    Calls prog 153 #[.int .u8 n] w λe w'=>e=.returned (.bool (bm n))/\w'=w:=by
  rcases h1:(n==32)with _|_<;>rcases h2:(n==10)with _|_<;>
  (go_enter func153,ntmps153
   go_wp2;go_ret
   exact⟨by simp [bm,h1,h2],rfl⟩)
theorem qJ(n:Int)(w:World):
    Calls prog 96 #[.int .u8 n] w λe w'=>e=.returned (.bool (aS n))/\w'=w:=by
  rcases h1:bP n with _|_<;>
  (go_enter func96,ntmps96
   go_wp2_with (first|(go_at_call 94;refine(jL _ _).mono ?_;rintro e w' ⟨rfl,rfl⟩)|(go_at_call 136;refine(lg _ _).mono ?_;rintro e w' ⟨rfl,rfl⟩))
   go_ret
   exact⟨by simp [aS,h1],rfl⟩)
theorem xB(s:ByteArray)(w:World)(hs:s.size<=maxLen):
  Calls prog 95 #[.string s,.func (.func 153) #[] #[]] w λe w'=>e=.returned (.int .i64 (aT bm s.data.toList))/\w'=w:=by
 unfold maxLen at hs
 go_enter func95,ntmps95
 go_wp2
 go_loop [5] (λi=>∃k:Nat,k<=s.size/\i=.int .i64 k/\(∀j,(h:j<k)->(h':j<s.size)->bm (s[j].toNat:Int)=true)) (λi=>s.size-(intOf i).toNat)
 case atStart=>exact⟨0,Nat.zero_le _,rfl,λj h=>by omega⟩
 obtain⟨k,hk,rfl,hall⟩:=hrel;have HA:=aa hall;clear hall
 by_cases hlt:k<s.size
 ·rcases hp:bm (s[k].toNat:Int)with _|_
  ·go_wp2_with (go_at_call 153;refine(wW _ _).mono ?_;rintro e w' ⟨rfl,rfl⟩)
   go_ret;exact⟨bR (by rw [nS bm s.data.toList k (by simpa using hlt) (λj h=>HA.o j h (by omega)) hp]),rfl⟩
  ·go_wp2_with (go_at_call 153;refine(wW _ _).mono ?_;rintro e w' ⟨rfl,rfl⟩)
   go_round
   case rel=>exact⟨k+1,by omega,by go_num,λj h h'=>by
    by_cases e:j=k
    ·subst e;exact hp
    ·exact HA.o j (by omega) h'⟩
   case measure=>simp [intOf];omega
 go_wp2;go_ret
 have hall:∀j,(h:j<s.data.toList.length)->bm (s.data.toList[j].toNat:Int)=true:=λj h=>HA.o j (by simp at h;omega) (by simpa using h)
 exact⟨bR (by rw [pN bm s.data.toList hall];simp;omega),rfl⟩
theorem mJ(s:ByteArray)(w:World)(hs:s.size<=maxLen):
  Calls prog 95 #[.string s,.func (.func 96) #[] #[]] w λe w'=>e=.returned (.int .i64 (aT aS s.data.toList))/\w'=w:=by
 unfold maxLen at hs
 go_enter func95,ntmps95
 go_wp2
 go_loop [5] (λi=>∃k:Nat,k<=s.size/\i=.int .i64 k/\(∀j,(h:j<k)->(h':j<s.size)->aS (s[j].toNat:Int)=true)) (λi=>s.size-(intOf i).toNat)
 case atStart=>exact⟨0,Nat.zero_le _,rfl,λj h=>by omega⟩
 obtain⟨k,hk,rfl,hall⟩:=hrel;have HA:=aa hall;clear hall
 by_cases hlt:k<s.size
 ·rcases hp:aS (s[k].toNat:Int)with _|_
  ·go_wp2_with (go_at_call 96;refine(qJ _ _).mono ?_;rintro e w' ⟨rfl,rfl⟩)
   go_ret;exact⟨bR (by rw [nS aS s.data.toList k (by simpa using hlt) (λj h=>HA.o j h (by omega)) hp]),rfl⟩
  ·go_wp2_with (go_at_call 96;refine(qJ _ _).mono ?_;rintro e w' ⟨rfl,rfl⟩)
   go_round
   case rel=>exact⟨k+1,by omega,by go_num,λj h h'=>by
    by_cases e:j=k
    ·subst e;exact hp
    ·exact HA.o j (by omega) h'⟩
   case measure=>simp [intOf];omega
 go_wp2;go_ret
 have hall:∀j,(h:j<s.data.toList.length)->aS (s.data.toList[j].toNat:Int)=true:=λj h=>HA.o j (by simp at h;omega) (by simpa using h)
 exact⟨bR (by rw [pN aS s.data.toList hall];simp;omega),rfl⟩
theorem xC(s:ByteArray)(w:World)(hs:s.size<=maxLen):
  Calls prog 95 #[.string s,.func (.func 136) #[] #[]] w λe w'=>e=.returned (.int .i64 (aT ba s.data.toList))/\w'=w:=by
 unfold maxLen at hs
 go_enter func95,ntmps95
 go_wp2
 go_loop [5] (λi=>∃k:Nat,k<=s.size/\i=.int .i64 k/\(∀j,(h:j<k)->(h':j<s.size)->ba (s[j].toNat:Int)=true)) (λi=>s.size-(intOf i).toNat)
 case atStart=>exact⟨0,Nat.zero_le _,rfl,λj h=>by omega⟩
 obtain⟨k,hk,rfl,hall⟩:=hrel;have HA:=aa hall;clear hall
 by_cases hlt:k<s.size
 ·rcases hp:ba (s[k].toNat:Int)with _|_
  ·go_wp2_with (go_at_call 136;refine(lg _ _).mono ?_;rintro e w' ⟨rfl,rfl⟩)
   go_ret;exact⟨bR (by rw [nS ba s.data.toList k (by simpa using hlt) (λj h=>HA.o j h (by omega)) hp]),rfl⟩
  ·go_wp2_with (go_at_call 136;refine(lg _ _).mono ?_;rintro e w' ⟨rfl,rfl⟩)
   go_round
   case rel=>exact⟨k+1,by omega,by go_num,λj h h'=>by
    by_cases e:j=k
    ·subst e;exact hp
    ·exact HA.o j (by omega) h'⟩
   case measure=>simp [intOf];omega
 go_wp2;go_ret
 have hall:∀j,(h:j<s.data.toList.length)->ba (s.data.toList[j].toNat:Int)=true:=λj h=>HA.o j (by simp at h;omega) (by simpa using h)
 exact⟨bR (by rw [pN ba s.data.toList hall];simp;omega),rfl⟩
theorem sW(s:ByteArray)(w:World):
  Calls prog 97 #[.string s] w λe w'=>e=.returned (.bool (bS s.data.toList))/\w'=w:=by
 have HT:=aa (ByteArray.toList_eq s)
 rcases q0:(s.toList== [117,115,101])with _|_
 rotate_left
 ·have HK:=aa (show bS s.data.toList=true by rw [<-HT.o];simp only [bS,cr,List.contains_cons,q0,List.contains_nil,Bool.true_or,Bool.or_true,Bool.false_or,Bool.or_false])
  go_enter func97,ntmps97
  go_wp2;go_ret;exact⟨bD HK.o.symm,rfl⟩
 rcases q1:(s.toList== [112,117,98])with _|_
 rotate_left
 ·have HK:=aa (show bS s.data.toList=true by rw [<-HT.o];simp only [bS,cr,List.contains_cons,q0,q1,List.contains_nil,Bool.true_or,Bool.or_true,Bool.false_or,Bool.or_false])
  go_enter func97,ntmps97
  go_wp2;go_ret;exact⟨bD HK.o.symm,rfl⟩
 rcases q2:(s.toList== [102,110])with _|_
 rotate_left
 ·have HK:=aa (show bS s.data.toList=true by rw [<-HT.o];simp only [bS,cr,List.contains_cons,q0,q1,q2,List.contains_nil,Bool.true_or,Bool.or_true,Bool.false_or,Bool.or_false])
  go_enter func97,ntmps97
  go_wp2;go_ret;exact⟨bD HK.o.symm,rfl⟩
 rcases q3:(s.toList== [105,102])with _|_
 rotate_left
 ·have HK:=aa (show bS s.data.toList=true by rw [<-HT.o];simp only [bS,cr,List.contains_cons,q0,q1,q2,q3,List.contains_nil,Bool.true_or,Bool.or_true,Bool.false_or,Bool.or_false])
  go_enter func97,ntmps97
  go_wp2;go_ret;exact⟨bD HK.o.symm,rfl⟩
 rcases q4:(s.toList== [116,104,101,110])with _|_
 rotate_left
 ·have HK:=aa (show bS s.data.toList=true by rw [<-HT.o];simp only [bS,cr,List.contains_cons,q0,q1,q2,q3,q4,List.contains_nil,Bool.true_or,Bool.or_true,Bool.false_or,Bool.or_false])
  go_enter func97,ntmps97
  go_wp2;go_ret;exact⟨bD HK.o.symm,rfl⟩
 rcases q5:(s.toList== [101,108,115,101])with _|_
 rotate_left
 ·have HK:=aa (show bS s.data.toList=true by rw [<-HT.o];simp only [bS,cr,List.contains_cons,q0,q1,q2,q3,q4,q5,List.contains_nil,Bool.true_or,Bool.or_true,Bool.false_or,Bool.or_false])
  go_enter func97,ntmps97
  go_wp2;go_ret;exact⟨bD HK.o.symm,rfl⟩
 rcases q6:(s.toList== [108,101,116])with _|_
 rotate_left
 ·have HK:=aa (show bS s.data.toList=true by rw [<-HT.o];simp only [bS,cr,List.contains_cons,q0,q1,q2,q3,q4,q5,q6,List.contains_nil,Bool.true_or,Bool.or_true,Bool.false_or,Bool.or_false])
  go_enter func97,ntmps97
  go_wp2;go_ret;exact⟨bD HK.o.symm,rfl⟩
 rcases q7:(s.toList== [105,110])with _|_
 rotate_left
 ·have HK:=aa (show bS s.data.toList=true by rw [<-HT.o];simp only [bS,cr,List.contains_cons,q0,q1,q2,q3,q4,q5,q6,q7,List.contains_nil,Bool.true_or,Bool.or_true,Bool.false_or,Bool.or_false])
  go_enter func97,ntmps97
  go_wp2;go_ret;exact⟨bD HK.o.symm,rfl⟩
 rcases q8:(s.toList== [116,114,117,101])with _|_
 rotate_left
 ·have HK:=aa (show bS s.data.toList=true by rw [<-HT.o];simp only [bS,cr,List.contains_cons,q0,q1,q2,q3,q4,q5,q6,q7,q8,List.contains_nil,Bool.true_or,Bool.or_true,Bool.false_or,Bool.or_false])
  go_enter func97,ntmps97
  go_wp2;go_ret;exact⟨bD HK.o.symm,rfl⟩
 rcases q9:(s.toList== [102,97,108,115,101])with _|_
 rotate_left
 ·have HK:=aa (show bS s.data.toList=true by rw [<-HT.o];simp only [bS,cr,List.contains_cons,q0,q1,q2,q3,q4,q5,q6,q7,q8,q9,List.contains_nil,Bool.true_or,Bool.or_true,Bool.false_or,Bool.or_false])
  go_enter func97,ntmps97
  go_wp2;go_ret;exact⟨bD HK.o.symm,rfl⟩
 rcases Q5:(s.toList== [105,110,116])with _|_
 rotate_left
 ·have HK:=aa (show bS s.data.toList=true by rw [<-HT.o];simp only [bS,cr,List.contains_cons,q0,q1,q2,q3,q4,q5,q6,q7,q8,q9,Q5,List.contains_nil,Bool.true_or,Bool.or_true,Bool.false_or,Bool.or_false])
  go_enter func97,ntmps97
  go_wp2;go_ret;exact⟨bD HK.o.symm,rfl⟩
 rcases Y1:(s.toList== [98,111,111,108])with _|_
 rotate_left
 ·have HK:=aa (show bS s.data.toList=true by rw [<-HT.o];simp only [bS,cr,List.contains_cons,q0,q1,q2,q3,q4,q5,q6,q7,q8,q9,Q5,Y1,List.contains_nil,Bool.true_or,Bool.or_true,Bool.false_or,Bool.or_false])
  go_enter func97,ntmps97
  go_wp2;go_ret;exact⟨bD HK.o.symm,rfl⟩
 have HK:=aa (show bS s.data.toList=false by rw [<-HT.o];simp only [bS,cr,List.contains_cons,q0,q1,q2,q3,q4,q5,q6,q7,q8,q9,Q5,Y1,List.contains_nil,Bool.true_or,Bool.or_true,Bool.false_or,Bool.or_false])
 go_enter func97,ntmps97
 go_wp2;go_ret;exact⟨bD HK.o.symm,rfl⟩
theorem Cn(s:ByteArray)(w:World):
    Calls prog 199 #[.string s] w λe w'=>e=.returned (.int .i64 (dM s.data.toList))/\w'=w:=by
  have HL:=aa (show s.data.toList.length=s.size by simp)
  by_cases h1:8<s.size
  · go_enter func199,ntmps199
    go_wp2;go_ret;exact⟨by simp [dM,h1],rfl⟩
  rcases h2:bS s.data.toList with _|_<;>
  (go_enter func199,ntmps199
   go_wp2_with (go_at_call 97;refine(sW _ _).mono ?_;rintro e w' ⟨rfl,rfl⟩)
   go_ret
   exact⟨by simp [dM,h1,h2],rfl⟩)
theorem kF(s:ByteArray)(h0:0<s.size):s.data.toList=s[0]::s.data.toList.drop 1:=by
 have:0<s.data.toList.length:=by simpa using h0
 exact(List.getElem_cons_drop this).symm
theorem DB(s:ByteArray)(h0:1<s.size):s.data.toList=s[0]::s[1]::s.data.toList.drop 2:=by
 have h1:1<s.data.toList.length:=by simpa using h0
 have h2:s.data.toList.drop 1=s[1]::s.data.toList.drop 2:=(List.getElem_cons_drop h1).symm;rw [<-h2];exact kF s (by omega)
theorem JZ(s:ByteArray)(h0:0<s.size)(h1:¬1<s.size):s.data.toList= [s[0]]:=by
 have:s.data.toList.drop 1= []:=by apply List.drop_of_length_le;simp;omega
 rw [kF s h0,this]
theorem Co(s:ByteArray)(w:World)(h0:0<s.size):
    Calls prog 200 #[.string s] w λe w'=>e=.returned (.tuple #[.int .i64 ((bB s.data.toList).1:Nat),.int .i64 ((bB s.data.toList).2:Nat)])/\w'=w:=by
  rcases e0:((s[0].toNat:Int)==61)with _|_
  rotate_left
  · by_cases h1:1<s.size
    · have HT:=aa (DB s h1)
      rcases e1:((s[1].toNat:Int)==61)with _|_<;>
      (go_enter func200,ntmps200
       go_wp2
       go_ret2
       exact⟨by rw [HT.o];simp [bB,e0,e1],rfl⟩)
    · have HT:=aa (JZ s h0 h1)
      go_enter func200,ntmps200
      go_wp2
      go_ret2
      exact⟨by rw [HT.o];simp [bB,e0],rfl⟩
  have HT:=aa (kF s h0)
  rcases q0:((s[0].toNat:Int)==40)with _|_
  rotate_left
  · go_enter func200,ntmps200
    go_wp2
    go_ret2
    exact⟨by rw [HT.o];simp [bB,fK,e0,q0],rfl⟩
  rcases q1:((s[0].toNat:Int)==41)with _|_
  rotate_left
  · go_enter func200,ntmps200
    go_wp2
    go_ret2
    exact⟨by rw [HT.o];simp [bB,fK,e0,q0,q1],rfl⟩
  rcases q2:((s[0].toNat:Int)==58)with _|_
  rotate_left
  · go_enter func200,ntmps200
    go_wp2
    go_ret2
    exact⟨by rw [HT.o];simp [bB,fK,e0,q0,q1,q2],rfl⟩
  rcases q3:((s[0].toNat:Int)==44)with _|_
  rotate_left
  · go_enter func200,ntmps200
    go_wp2
    go_ret2
    exact⟨by rw [HT.o];simp [bB,fK,e0,q0,q1,q2,q3],rfl⟩
  rcases q4:((s[0].toNat:Int)==59)with _|_
  rotate_left
  · go_enter func200,ntmps200
    go_wp2
    go_ret2
    exact⟨by rw [HT.o];simp [bB,fK,e0,q0,q1,q2,q3,q4],rfl⟩
  rcases q5:((s[0].toNat:Int)==60)with _|_
  rotate_left
  · go_enter func200,ntmps200
    go_wp2
    go_ret2
    exact⟨by rw [HT.o];simp [bB,fK,e0,q0,q1,q2,q3,q4,q5],rfl⟩
  rcases q6:((s[0].toNat:Int)==43)with _|_
  rotate_left
  · go_enter func200,ntmps200
    go_wp2
    go_ret2
    exact⟨by rw [HT.o];simp [bB,fK,e0,q0,q1,q2,q3,q4,q5,q6],rfl⟩
  rcases q7:((s[0].toNat:Int)==45)with _|_
  rotate_left
  · go_enter func200,ntmps200
    go_wp2
    go_ret2
    exact⟨by rw [HT.o];simp [bB,fK,e0,q0,q1,q2,q3,q4,q5,q6,q7],rfl⟩
  rcases q8:((s[0].toNat:Int)==42)with _|_
  rotate_left
  · go_enter func200,ntmps200
    go_wp2
    go_ret2
    exact⟨by rw [HT.o];simp [bB,fK,e0,q0,q1,q2,q3,q4,q5,q6,q7,q8],rfl⟩
  rcases q9:((s[0].toNat:Int)==47)with _|_
  rotate_left
  · go_enter func200,ntmps200
    go_wp2
    go_ret2
    exact⟨by rw [HT.o];simp [bB,fK,e0,q0,q1,q2,q3,q4,q5,q6,q7,q8,q9],rfl⟩
  rcases Q5:((s[0].toNat:Int)==33)with _|_
  rotate_left
  · go_enter func200,ntmps200
    go_wp2
    go_ret2
    exact⟨by rw [HT.o];simp [bB,fK,e0,q0,q1,q2,q3,q4,q5,q6,q7,q8,q9,Q5],rfl⟩
  go_enter func200,ntmps200
  go_wp2
  go_ret2
  exact⟨by rw [HT.o];simp [bB,fK,e0,q0,q1,q2,q3,q4,q5,q6,q7,q8,q9,Q5],rfl⟩
theorem cF(s:ByteArray)(a b:Nat):(s.extract a b).data.toList=(s.data.toList.drop a).take (b-a):=by
 simp [List.extract]
theorem yt{l:IntKind}{a b c d:Int}(h:a=b)(h':c=d):Ending.returned (.tuple #[.int k a,.int l c])=.returned (.tuple #[.int k b,.int l d]):=by rw [h,h']
theorem Av(s:ByteArray)(w:World)(h0:0<s.size)(hs:s.size<=100000):
  Calls prog 154 #[.string s] w λe w'=>e=.returned (.tuple #[.int .i64 ((aV s.data.toList).1:Nat),.int .i64 ((aV s.data.toList).2:Nat)])/\w'=w:=by
 have HT:=aa (kF s h0);have HL:=aa (show s.data.toList.length=s.size by simp)
 have hm:s.size<=maxLen:=by unfold maxLen;omega
 rcases e0:bP (s[0].toNat:Int)with _|_
 rotate_left
 ·have hr:=jy aS s.data.toList
  rw [HL.o]at hr;have HF:=aa (show aV s.data.toList=(dM (s.data.toList.take (aT aS s.data.toList)),aT aS s.data.toList) by rw [HT.o];simp only [aV,e0,if_true]);have HE:=aa (show dM (s.extract 0 (aT aS s.data.toList)).data.toList=dM (s.data.toList.take (aT aS s.data.toList)) by rw [cF];simp);have HR:=aa (mJ s);generalize aT aS s.data.toList=k at*
  go_enter func154,ntmps154
  go_wp2_with fail
  refine(jL _ _).mono ?_;rintro e w' ⟨rfl,rfl⟩
  go_wp2_with fail
  refine(HR.o _ hm).mono ?_;rintro e w' ⟨rfl,rfl⟩
  go_wp2_with fail
  refine(Cn _ _).mono ?_;rintro e w' ⟨rfl,rfl⟩
  go_wp2_with fail
  go_ret2
  exact⟨yt (by rw [HF.o]) (by rw [HF.o]),rfl⟩
 rcases e1:ba (s[0].toNat:Int)with _|_
 rotate_left
 ·have hr:=jy ba s.data.toList
  rw [HL.o]at hr;have HF:=aa (show aV s.data.toList=(if 9<aT ba s.data.toList then 1 else 3,aT ba s.data.toList) by rw [HT.o];simp only [aV,e0,e1,if_true,if_false,Bool.false_eq_true]);have HR:=aa (xC s);generalize aT ba s.data.toList=k at*
  by_cases h9:9<k
  all_goals
   go_enter func154,ntmps154
   go_wp2_with fail
   refine(jL _ _).mono ?_;rintro e w' ⟨rfl,rfl⟩
   go_wp2_with fail
   refine(lg _ _).mono ?_;rintro e w' ⟨rfl,rfl⟩
   go_wp2_with fail
   refine(HR.o _ hm).mono ?_;rintro e w' ⟨rfl,rfl⟩
   go_wp2_with fail
   go_ret2
   exact⟨yt (by rw [HF.o];simp [h9]) (by rw [HF.o]),rfl⟩
 have HF:=aa (show aV s.data.toList=bB s.data.toList by rw [HT.o];simp only [aV,e0,e1,if_true,if_false,Bool.false_eq_true])
 go_enter func154,ntmps154
 go_wp2_with fail
 refine(jL _ _).mono ?_;rintro e w' ⟨rfl,rfl⟩
 go_wp2_with fail
 refine(lg _ _).mono ?_;rintro e w' ⟨rfl,rfl⟩
 go_wp2_with fail
 refine(Co _ _ h0).mono ?_;rintro e w' ⟨rfl,rfl⟩
 go_wp2_with fail
 go_ret2
 exact⟨yt (by rw [HF.o]) (by rw [HF.o]),rfl⟩
def iW(x:Wd):List Value:= [.int .i64 x.aL,.string ⟨x.aX.toArray⟩,.int .i64 x.ai]
theorem bu(s:ByteArray)(a b:Nat):s.extract a b=⟨((s.data.toList.drop a).take (b-a)).toArray⟩:=by
 rw [<-cF]
theorem J_:(prog.info? 274).map (λi=>(i.zero,i.size,i.bytes))=some (some (.agg #[.int .i64 0,.string ⟨#[]⟩,.int .i64 0]),3,32):=by kernel_rfl
theorem MK{base:Nat}{e:TypeId}{size:Nat}{v:Value}{n:Nat}{xs:List Value}(h:w.ownsRow base e size v n xs):∀k,v.ownBlock=some k->base<=k:=by
 intro k hk
 rcases h.2 with⟨rfl,_⟩|⟨g,cap,aU,rfl,hg,_⟩
 ·simp [Value.ownBlock]at hk
 simp [Value.ownBlock]at hk;omega
theorem yu(s:ByteArray)(w:World)(hs:s.size<=100000):
  Calls prog 105 #[.string s] w λe w'=>∃v,e=.returned v/\
   w'.ownsRow w.heap.size 274 3 v (aD s.data.toList 0).length ((aD s.data.toList 0).flatMap iW)/\Below w.heap.size w w':=by
 obtain⟨i0,hi,hz0,hz1,hz2⟩:=info_parts J_;have HL:=aa (show s.data.toList.length=s.size by simp)
 go_enter func105,ntmps105
 go_wp2
 go_loopw [3,4] (λv i wr=>∃(k:Nat) (ws:List Wd),k<=s.size/\i=.int .i64 k/\Hy (aD s.data.toList 0=ws++aD (s.data.toList.drop k) k)/\ws.length<=k/\
   wr.ownsRow w.heap.size 274 3 v ws.length (ws.flatMap iW)/\Below w.heap.size w wr) (λ_ i _=>s.size-(intOf i).toNat)
 case atStart=>exact⟨0,[],Nat.zero_le _,rfl,rfl,Nat.zero_le _,World.ownsRow_nil _ _ _ _,Below.refl _ _⟩
 obtain⟨k,ws,hk,rfl,HS,hws,hown,jM⟩:=hrel
 have hm:(s.extract k s.size).size<=maxLen:=by unfold maxLen;simp;omega
 have HD:=aa (show(s.extract k s.size).data.toList=s.data.toList.drop k by rw [cF];apply List.take_of_length_le;simp);have hb:=jy bm (s.extract k s.size).data.toList;rw [HD.o]at hb;simp only [List.length_drop,HL.o]at hb;have HR:=aa (xB (s.extract k s.size) wr hm);rw [HD.o]at HR;have HE:=aa (om (s.data.toList.drop k) k);have HC:=aa (jK (s.data.toList.drop k) k);generalize aT bm (s.data.toList.drop k)=b at*
 by_cases hend:k+b=s.size
 ·have Y2:((k:Int)+(b:Int)==(s.size:Int))=true:=by simp;omega
  have HF:=aa (HE.o (by rw [List.drop_drop];apply List.drop_of_length_le;rw [HL.o];omega))
  go_wp2_with fail
  refine HR.o.mono ?_;rintro e w' ⟨rfl,rfl⟩
  go_wp2_with (at_builtin;refine wpList_append_own _ rfl _ _ 200 rfl w.heap.size 274 i0 (.agg #[.int .i64 0,.string ⟨#[]⟩,.int .i64 0]) 3 32 underlying200 hi hz0 hz1 hz2 rfl (by decide) _ _ _ rfl (hown.alloc _) ⟨w'.heap.size,0,none⟩ 1 1 [.int .i64 0,.string ⟨#[]⟩,.int .i64 ((k:Int)+(b:Int))] rfl rfl ?c1 ?c2 ?c3 ?c4 ?c5 ?_)
  case c1=>
   intro j u hj
   match j,hj with
   |0,hj=>simp at hj;subst hj;simp [Addr.add]
   |1,hj=>simp at hj;subst hj;simp [Addr.add]
   |2,hj=>simp at hj;subst hj;simp [Addr.add]
  case c2=>intro u hu;simp at hu;rcases hu with rfl|rfl|rfl<;>rfl
  case c3=>unfold maxLen;omega
  case c4=>omega
  case c5=>have:=jM.size;simp;omega
  intro v' w1 hown' aB _;have HB:=aa ((jM.alloc jM.size (.cells #[.int .i64 0,.string ⟨#[]⟩,.int .i64 ((k:Int)+(b:Int))] 274)).grown aB (by have:=jM.size;simp;omega) (MK hown));clear aB hown jM;go_wp2;go_ret;refine⟨v',rfl,?_,HB.o⟩;rw [HS.o,HF.o];simpa [iW]using hown'
 have Y2:((k:Int)+(b:Int)==(s.size:Int))=false:=by simp;omega
 have hlt:k+b<s.size:=by omega
 have h0:0<(s.extract (k+b) s.size).size:=by simp;omega
 have hsz:(s.extract (k+b) s.size).size<=100000:=by simp;omega
 have HX:=aa (show(s.extract (k+b) s.size).data.toList=s.data.toList.drop (k+b) by rw [cF];apply List.take_of_length_le;simp)
 have hd:(s.data.toList.drop k).drop b=s[k+b]::s.data.toList.drop (k+b+1):=by
  rw [List.drop_drop];exact(List.getElem_cons_drop (by rw [HL.o];omega)).symm
 have HF:=aa (HC.o _ _ hd);have sG:=gM s[k+b] (s.data.toList.drop (k+b+1));rw [<-hd,List.drop_drop]at sG;simp only [List.length_drop,HL.o]at sG;rw [<-hd,List.drop_drop]at HF;have HW:=aa (λw=>Av (s.extract (k+b) s.size) w h0 hsz);rw [HX.o]at HW;clear hd;generalize Y3:(aV (s.data.toList.drop (k+b))).1=fk at*;generalize xD:(aV (s.data.toList.drop (k+b))).2=fl at*;clear Y3 xD;have HT:=aa (show s.extract (k+b) (k+b+fl)=⟨((s.data.toList.drop (k+b)).take fl).toArray⟩ by rw [bu];simp)
 go_wp2_with fail
 refine HR.o.mono ?_;rintro e w' ⟨rfl,rfl⟩
 go_wp2_with fail
 refine(HW.o _).mono ?_;rintro e w1 ⟨rfl,rfl⟩
 go_wp2_with (at_builtin;refine wpList_append_own _ rfl _ _ 200 rfl w.heap.size 274 i0 (.agg #[.int .i64 0,.string ⟨#[]⟩,.int .i64 0]) 3 32 underlying200 hi hz0 hz1 hz2 rfl (by decide) _ _ _ rfl (hown.alloc _) ⟨w1.heap.size,0,none⟩ 1 1 [.int .i64 fk,.string (s.extract (k+b) (k+b+fl)),.int .i64 ((k:Int)+(b:Int))] rfl rfl ?d1 ?d2 ?d3 ?d4 ?d5 ?_)
 case d1=>
  intro j u hj
  match j,hj with
  |0,hj=>simp at hj;subst hj;simp [Addr.add]
  |1,hj=>simp at hj;subst hj;simp [Addr.add]
  |2,hj=>simp at hj;subst hj;simp [Addr.add]
 case d2=>intro u hu;simp at hu;rcases hu with rfl|rfl|rfl<;>rfl
 case d3=>unfold maxLen;omega
 case d4=>omega
 case d5=>have:=jM.size;simp;omega
 intro v' w2 hown' aB _;have HB:=aa ((jM.alloc jM.size (.cells #[.int .i64 fk,.string (s.extract (k+b) (k+b+fl)),.int .i64 ((k:Int)+(b:Int))] 274)).grown aB (by have:=jM.size;simp;omega) (MK hown));clear aB hown jM;have HO:=aa hown';clear hown';go_wp2
 go_roundw
 case rel=>
  refine⟨k+b+fl,ws++ [⟨fk,(s.data.toList.drop (k+b)).take fl,k+b⟩],by omega,by go_num,?_,by simp;omega,?_,HB.o⟩
  ·show aD s.data.toList 0=_
   rw [HS.o,HF.o,List.drop_drop];simp
  ·have:=HO.o
   rw [HT.o]at this;simpa [iW]using this
 case measure=>simp [intOf];omega
structure eh (pb:Nat) (w w':World):Prop where
 os:w'.os=w.os
 tape:w'.tape=w.tape
 output:w'.output=w.output
 size:w.heap.size<=w'.heap.size
 block:∀k,k<w.heap.size->k≠pb->w'.heap[k]?=w.heap[k]?
theorem eh.refl(pb:Nat)(w:World):eh pb w w:=⟨rfl,rfl,rfl,Nat.le_refl _,λ_ _ _=>rfl⟩
theorem eh.trans{b c:World}(h:eh pb a b)(k:eh pb b c):eh pb a c:=
 ⟨k.os.trans h.os,k.tape.trans h.tape,k.output.trans h.output,Nat.le_trans h.size k.size,λi hi hne=>(k.block i (Nat.lt_of_lt_of_le hi h.size) hne).trans (h.block i hi hne)⟩
theorem eh.aW(h:Below w.heap.size w w'):eh pb w w':=⟨h.os,h.tape,h.output,h.size,λk hk _=>h.block k hk⟩
theorem eh.alloc(h:eh pb a w)(o:Obj):eh pb a (w.alloc o):=
 h.trans ⟨rfl,rfl,rfl,by simp,λk hk _=>Below.heap_alloc _ _ _ hk⟩
theorem eh.drew(h:eh pb a w):eh pb a w.drew:=⟨h.os,h.tape,h.output,h.size,h.block⟩
theorem eh.setCell(h:eh pb a w){p:Addr}(hp:p.block=pb\/a.heap.size<=p.block)(u:Value):eh pb a (w.setCell p u):=
 ⟨h.os,h.tape,h.output,by have:=h.size;simp [World.setCell];omega,λk hk hne=>(Below.heap_setCell _ _ _ _ (by omega)).trans (h.block k hk hne)⟩
theorem eh.cell(h:eh pb w w')(hb:b<w.heap.size)(hne:b≠pb)(o:Nat):w'.cell? ⟨b,o,none⟩=w.cell? ⟨b,o,none⟩:=by
 simp only [World.cell?,h.block b hb hne]
structure Pl where
 pb:Nat
 g:Nat
 cap:Nat
 aU:Array Value
variable{P:Pl}
structure PS where
 i:Nat
 aH:Bool
 ai:Nat
variable{st st':PS}
def PS.aU(ws:List Wd)(st:PS):Wd:=ws.getD st.i ⟨0,[],0⟩
def PS.next(ws:List Wd)(st:PS):PS:={st with i:=min (st.i+1) (ws.length-1)}
def PS.fail(ws:List Wd)(st:PS):PS:=⟨ws.length-1,true,if st.aH then st.ai else(st.aU ws).ai⟩
def PS.aN(ws:List Wd)(st:PS)(l:List (List UInt8)):Bool:=(st.aU ws).aL==4&&l.contains (st.aU ws).aX
theorem PS.ML(h:st.i<ws.length):ws[st.i]=st.aU ws:=by
 simp [PS.aU,List.getD,List.getElem?_eq_getElem h]
structure jJ (P:Pl) (ws:List Wd) (st:PS) (w:World):Prop where
 blk:w.heap[P.pb]?=some (.cells #[.slice (some ⟨P.g,0,none⟩) ws.length P.cap,.int .i64 st.i,.bool st.aH,.int .i64 st.ai] 203 (0,0))
 row:w.heap[P.g]?=some (.cells P.aU 274 (0,0))
 cells:P.aU.toList.take (ws.length*3)=ws.flatMap iW
 ne:P.g≠P.pb
 lt:st.i<ws.length
 small:ws.length<=100001
 fits:ws.length<=P.cap
theorem Y4(ws:List Wd)(i:Nat)(h:i<ws.length):(ws.flatMap iW)[i*3]?=some (.int .i64 ws[i].aL)/\(ws.flatMap iW)[i*3+1]?=some (.string ⟨ws[i].aX.toArray⟩)/\(ws.flatMap iW)[i*3+2]?=some (.int .i64 ws[i].ai):=by
 induction ws generalizing i with
 |nil=>simp at h
 |cons x r ih=>
  cases i with
  |zero=>simp [iW]
  |succ i=>
   have:=ih i (by simpa using h)
   have e:(i+1)*3=i*3+3:=by omega
   simp only [List.flatMap_cons,iW,e,List.cons_append,List.nil_append,List.getElem?_cons_succ,List.getElem_cons_succ];exact this
theorem ae{e:TypeId}(h:w.heap[b]?=some (.cells c e f))(o:Nat):w.cell? ⟨b,o,none⟩=c[o]?:=by
 simp [World.cell?,h]
theorem aj{e:TypeId}(h:w.heap[b]?=some (.cells c e (0,0)))(o:Nat):w.frozen? ⟨b,o,none⟩=false:=by
 simp [World.frozen?,h]
theorem jJ.word(h:jJ P ws st w)(i:Nat)(hi:i<ws.length):
  w.cell? ⟨P.g,i*3,none⟩=some (.int .i64 ws[i].aL)/\w.cell? ⟨P.g,i*3+1,none⟩=some (.string ⟨ws[i].aX.toArray⟩)/\w.cell? ⟨P.g,i*3+2,none⟩=some (.int .i64 ws[i].ai):=by
 have hf:=Y4 ws i hi
 have hl:∀j,j<3->P.aU[i*3+j]?=(ws.flatMap iW)[i*3+j]?:=by
  intro j hj;rw [<-h.cells,List.getElem?_take];rw [if_pos (by omega)];simp
 rw [ae h.row,ae h.row,ae h.row];exact⟨(hl 0 (by omega)).trans hf.1,(hl 1 (by omega)).trans hf.2.1,(hl 2 (by omega)).trans hf.2.2⟩
theorem jJ.field(h:jJ P ws st w):
  w.cell? ⟨P.pb,0,none⟩=some (.slice (some ⟨P.g,0,none⟩) ws.length P.cap)/\w.cell? ⟨P.pb,1,none⟩=some (.int .i64 st.i)/\
  w.cell? ⟨P.pb,2,none⟩=some (.bool st.aH)/\w.cell? ⟨P.pb,3,none⟩=some (.int .i64 st.ai):=by
 refine⟨?_,?_,?_,?_⟩<;>rw [ae h.blk]<;>rfl
theorem af{o:Obj}(h:w.heap[b]?=some o):b<w.heap.size:=by
 rcases Nat.lt_or_ge b w.heap.size with h'|h'
 ·exact h'
 rw [Array.getElem?_eq_none h']at h;cases h
theorem jJ.below(h:jJ P ws st w)(hb:Below w.heap.size w w'):jJ P ws st w':=
 ⟨(hb.block _ (af h.blk)).trans h.blk,(hb.block _ (af h.row)).trans h.row,h.cells,h.ne,h.lt,h.small,h.fits⟩
theorem jJ.QX(h:jJ P ws st w):
  w.cell? ⟨P.g,st.i*3,none⟩=some (.int .i64 (st.aU ws).aL)/\w.cell? ⟨P.g,st.i*3+1,none⟩=some (.string ⟨(st.aU ws).aX.toArray⟩)/\w.cell? ⟨P.g,st.i*3+2,none⟩=some (.int .i64 (st.aU ws).ai):=by
 have:=h.word st.i h.lt;rw [PS.ML h.lt]at this;exact this
theorem jJ.but(h:jJ P ws st w)(hb:eh P.pb w w')(hk:w'.heap[P.pb]?=some (.cells #[.slice (some ⟨P.g,0,none⟩) ws.length P.cap,.int .i64 st'.i,.bool st'.aH,.int .i64 st'.ai] 203 (0,0)))(hi:st'.i<ws.length):jJ P ws st' w':=
 ⟨hk,(hb.block _ (af h.row) h.ne).trans h.row,h.cells,h.ne,hi,h.small,h.fits⟩
theorem ax{e:TypeId}(h:w.heap[b]?=some (.cells c e f))(o:Nat)(u:Value):
  (w.setCell ⟨b,o,none⟩ u).heap[b]?=some (.cells (c.setIfInBounds o u) e f):=by
 simp [World.setCell,Array.getElem?_modify,h]
theorem aI(h:w.heap[b]?=some x)(o:Obj):(w.alloc o).heap[b]?=some x:=
 (Below.heap_alloc w o b (af h)).trans h
theorem aF(w:World)(o:Obj):(w.alloc o).heap[w.heap.size]?=some o:=by
 show(w.heap.push o)[w.heap.size]?=_;simp
theorem jg(w:World)(o o':Obj):((w.alloc o).alloc o').heap[w.heap.size+1]?=some o':=by
 have:=aF (w.alloc o) o'
 rwa [show(w.alloc o).heap.size=w.heap.size+1 by simp]at this
theorem tH(h:w.heap[b]?=some x):w.drew.heap[b]?=some x:=h
theorem PS.cB(h:st.i<ws.length):(st.next ws).i<ws.length:=by simp only [PS.next];omega
theorem PS.rO(h:st.i<ws.length):(st.fail ws).i<ws.length:=by simp only [PS.fail];omega
theorem jJ.setAt(h:jJ P ws st w)(b o:Nat)(u:Value)(h1:b≠P.pb)(h2:b≠P.g):jJ P ws st (w.setCell ⟨b,o,none⟩ u):=
 ⟨(Below.heap_setCell _ _ _ _ (Ne.symm h1)).trans h.blk,(Below.heap_setCell _ _ _ _ (Ne.symm h2)).trans h.row,h.cells,h.ne,h.lt,h.small,h.fits⟩
structure Ok (P:Pl) (ws:List Wd) (w0:World) (st:PS) (w:World):Prop where
 p1:P.pb<w0.heap.size
 p2:P.g<w0.heap.size
 but:eh P.pb w0 w
 cz:jJ P ws st w
theorem Ok.refl(h:jJ P ws st w):Ok P ws w st w:=⟨af h.blk,af h.row,eh.refl _ _,h⟩
theorem Ok.go(h:Ok P ws w0 st w)(k:eh P.pb w w'/\jJ P ws st' w'):Ok P ws w0 st' w':=⟨h.p1,h.p2,h.but.trans k.1,k.2⟩
theorem Ok.trans(h:Ok P ws w0 st w)(k:Ok P ws w st' w'):Ok P ws w0 st' w':=⟨h.p1,h.p2,h.but.trans k.but,k.cz⟩
theorem Ok.below(h:Ok P ws w0 st w)(k:Below w.heap.size w w'):Ok P ws w0 st w':=h.go ⟨eh.aW k,h.cz.below k⟩
theorem Ok.alloc(h:Ok P ws w0 st w)(o:Obj):Ok P ws w0 st (w.alloc o):=h.below ((Below.refl _ _).alloc (Nat.le_refl _) o)
theorem Ok.drew(h:Ok P ws w0 st w):Ok P ws w0 st w.drew:=h.below ((Below.refl _ _).drew)
theorem Ok.set(h:Ok P ws w0 st w)(b o:Nat)(u:Value)(hb:w0.heap.size<=b):Ok P ws w0 st (w.setCell ⟨b,o,none⟩ u):=
 ⟨h.p1,h.p2,h.but.setCell (p:=⟨b,o,none⟩) (Or.inr hb) u,h.cz.setAt b o u (by have:=h.p1;omega) (by have:=h.p2;omega)⟩
theorem Ok.gY(h:Ok P ws w0 st w)(b:Nat)(hb:w0.heap.size<=b)(c0 c1 c2 c3 c4:Value):
  Ok P ws w0 st (((((w.setCell ⟨b,0,none⟩ c0).setCell ⟨b,1,none⟩ c1).setCell ⟨b,2,none⟩ c2).setCell ⟨b,3,none⟩ c3).setCell ⟨b,4,none⟩ c4):=
 ((((h.set b 0 c0 hb).set b 1 c1 hb).set b 2 c2 hb).set b 3 c3 hb).set b 4 c4 hb
theorem Ok.aba(h:Ok P ws w0 st w)(b:Nat)(hb:w0.heap.size<=b)(c0 c1 c2:Value):
  Ok P ws w0 st (((w.setCell ⟨b,0,none⟩ c0).setCell ⟨b,1,none⟩ c1).setCell ⟨b,2,none⟩ c2):=
 ((h.set b 0 c0 hb).set b 1 c1 hb).set b 2 c2 hb
theorem Ok.size(h:Ok P ws w0 st w):w0.heap.size<=w.heap.size:=h.but.size
theorem Cp(a b c:Value)(w:World):(Instr.field 274 (.agg #[a,b,c]) 0).run prog w=.ok a w:=by kernel_rfl
theorem Cq(a b c:Value)(w:World):(Instr.field 274 (.agg #[a,b,c]) 1).run prog w=.ok b w:=by kernel_rfl
theorem uw(a b c:Value)(w:World):(Instr.field 274 (.agg #[a,b,c]) 2).run prog w=.ok c w:=by kernel_rfl
end Go.Proofs.YtpmmjkiclngpmaaGreatDoor
namespace Go.Proofs.YtpmmjkiclngpmaaGreatDoor
open Tryz
def UJ(x:Wd):Prop:=x.aL=3->0<x.aX.length/\x.aX.length<=9/\∀c∈x.aX,ba (c.toNat:Int)=true
theorem DC(pb:Int->Bool)(l:List UInt8):∀c∈l.take (aT pb l),pb (c.toNat:Int)=true:=by
 induction l with
 |nil=>simp
 |cons d r ih=>
  simp only [aT]
  split
  ·intro c hc
   simp only [List.take_succ_cons,List.mem_cons]at hc
   rcases hc with rfl|hc
   ·assumption
   ·exact ih c hc
  ·simp
theorem ux(t:List UInt8):dM t≠3/\dM t≠0:=by
 unfold dM;split
 ·simp
 split<;>simp
theorem uy(l:List UInt8):(bB l).1≠3/\(bB l).1≠0:=by
 unfold bB
 split
 ·simp
 split
 ·split
  ·simp
  ·split<;>simp
 split<;>simp
theorem Aw(c:UInt8)(r:List UInt8)(p:Nat):UJ ⟨(aV (c::r)).1,(c::r).take (aV (c::r)).2,p⟩/\(aV (c::r)).1≠0:=by
 unfold aV
 dsimp only
 split
 ·exact⟨λh=>absurd h (ux _).1,(ux _).2⟩
 split
 ·rename_i hd
  refine⟨λh=> ?_,?_⟩
  ·have hl:=jy ba (c::r)
   have hp:=tF ba c r hd
   have h9:¬9<aT ba (c::r):=by
    intro h9;simp [h9]at h
   refine⟨?_,?_,DC _ _⟩<;>(rw [List.length_take];omega)
  ·split<;>simp
 exact⟨λh=>absurd h (uy _).1,(uy _).2⟩
theorem J'(n:Nat)(l:List UInt8)(p:Nat):∀x∈fh n l p,UJ x:=by
 induction n generalizing l p with
 |zero=>simp [fh]
 |succ n ih=>
  simp only [fh]
  split
  ·intro x hx
   simp at hx;subst hx;intro h;simp at h
  ·rename_i c r _
   intro x hx;simp only [List.mem_cons]at hx
   rcases hx with rfl|hx
   ·exact(Aw c r _).1
   ·exact ih _ _ x hx
theorem Cr(l:List UInt8)(p:Nat):∀x∈aD l p,UJ x:=J' _ _ _
theorem DD(n:Nat)(l:List UInt8)(p:Nat)(h:l.length<n):∃r x,fh n l p=r++ [x]/\x.aL=0/\r.length<=l.length:=by
 induction n generalizing l p with
 |zero=>omega
 |succ n ih=>
  simp only [fh]
  split
  ·exact⟨[],_,rfl,rfl,by simp⟩
  ·rename_i c r hd
   have hb:=gM c r
   have hl:(l.drop (aT bm l)).length=(c::r).length:=by rw [hd]
   simp only [List.length_drop,List.length_cons]at hl hb;obtain⟨q,x,e,hk,hq⟩:=ih ((c::r).drop (aV (c::r)).2) (p+aT bm l+(aV (c::r)).2) (by simp only [List.length_drop,List.length_cons];omega);refine⟨_::q,x,by rw [e];rfl,hk,?_⟩;simp only [List.length_drop,List.length_cons]at hq⊢;omega
theorem h_(l:List UInt8)(p:Nat):∃r x,aD l p=r++ [x]/\x.aL=0/\r.length<=l.length:=DD _ _ _ (by omega)
end Go.Proofs.YtpmmjkiclngpmaaGreatDoor
