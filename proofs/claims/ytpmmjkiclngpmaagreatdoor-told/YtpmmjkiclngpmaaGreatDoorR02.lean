/- YtpmmjkiclngpmaaGreatDoorR02 -/
import Derived.Test.YtpmmjkiclngpmaaGreatDoorR01
import Derived.Test.YtpmmjkiclngpmaaGreatDoorB32
import Derived.Deep.CutBlock
set_option maxRecDepth 100000
set_option linter.unusedSimpArgs false
set_option linter.unusedVariables false
set_option maxHeartbeats 12800000
namespace Go.Proofs.YtpmmjkiclngpmaaGreatDoor
open Tryz
open Go.RowKit
variable{w wr w3:World}{n p q m:Nat}{x:qH}{r T:List UInt8}{c:UInt8}{pb:Int->Bool}{cs:List Value}{lv:Value}{xs:List qH}
theorem di:(prog.info? 361).map (λi=>(i.zero,i.size,i.bytes))=some (some (.agg #[.int .u8 0,.string ⟨#[]⟩,.int .i64 0]),3,32):=by kernel_rfl
structure Wk (T:List UInt8) (w:World) (p:Nat) (xs:List qH) (lv:Value) (wr:World):Prop where
 dB:Below w.heap.size w wr
 row:wr.ownsRow w.heap.size 361 3 lv xs.length (xs.flatMap aY)
 eq:(aD T 0).map dV=xs++(aD (T.drop p) p).map dV
 ku:xs.length<=p
theorem Pd(w:World)(a b c:Value)(t:TypeId):∀j u,[a,b,c][j]?=some u->(w.alloc (.cells #[a,b,c] t)).cell? ((⟨w.heap.size,0,none⟩:Addr).add j)=some u:=by
 intro j u hj
 match j,hj with
 |0,hj=>simp at hj;subst hj;simp [Addr.add]
 |1,hj=>simp at hj;subst hj;simp [Addr.add]
 |2,hj=>simp at hj;subst hj;simp [Addr.add]
theorem jq(w:World)(o:Obj)(a b c:Value)(t:TypeId):∀j u,[a,b,c][j]?=some u->((w.alloc o).alloc (.cells #[a,b,c] t)).cell? ((⟨w.heap.size+1,0,none⟩:Addr).add j)=some u:=by
 have:=Pd (w.alloc o) a b c t;simpa using this
theorem sS{a b c:Value}(ha:a.oneCell'=true)(hb:b.oneCell'=true)(hc:c.oneCell'=true):∀u∈ [a,b,c],u.oneCell'=true:=by
 intro u hu;simp only [List.mem_cons,List.not_mem_nil,or_false]at hu
 rcases hu with rfl|rfl|rfl<;>assumption
theorem Pe(h:n<=w.heap.size)(o:Obj):n<=(w.alloc o).heap.size:=by simp;omega
theorem nw(h:n<=w.heap.size)(o o':Obj):n<=((w.alloc o).alloc o').heap.size:=Pe (Pe h o) o'
theorem zH{c:UInt8}(hd:T.drop p=c::r)(nb:bm (c.toNat:Int)=false)(hk:p+(aV (c::r)).2=q)(hx:dV ⟨(aV (c::r)).1,(c::r).take (aV (c::r)).2,p⟩=x):(aD (T.drop p) p).map dV=x::(aD (T.drop q) q).map dV:=by
 rw [<-hk,<-List.drop_drop,hd,zE nb p,List.map_cons,hx]
theorem BN(hd:T.drop p=c::r)(nb:bm (c.toNat:Int)=false)(hl:bP (c.toNat:Int)=true)(hE:aT aS (T.drop p)=q-p)(Wv:p<q):
  (aD (T.drop p) p).map dV=⟨vr ((T.drop p).take (q-p)),(T.drop p).take (q-p),p⟩::(aD (T.drop q) q).map dV:=
 zH hd nb (by rw [(xt hl p).2,<-hd,hE];omega) (by rw [(xt hl p).1,<-hd,hE])
theorem Fk(hd:T.drop p=c::r)(nb:bm (c.toNat:Int)=false)(hl:bP (c.toNat:Int)=false)(hg:ba (c.toNat:Int)=true)(hE:aT ba (T.drop p)=q-p)(Wv:p<q):
  (aD (T.drop p) p).map dV=⟨if q-p<=9 then 100 else 98,(T.drop p).take (q-p),p⟩::(aD (T.drop q) q).map dV/\bS ((T.drop p).take (q-p))=false/\cw ((T.drop p).take (q-p))=false:=by
 obtain⟨h1,h2,h3,h4⟩:=Ih (r:=r) hl hg p;refine⟨zH hd nb (by rw [h2,<-hd,hE];omega) (by rw [h1,<-hd,hE]),?_,?_⟩
 ·rw [<-hd,hE]at h3;exact h3
 rw [<-hd,hE]at h4;exact h4
theorem zI(h:aT pb (T.drop p)=(q-p)+aT pb (T.drop q))(hd:T.drop q=c::T.drop (q+1))(hc:pb (c.toNat:Int)=true)(hq:p<=q):aT pb (T.drop p)=(q+1-p)+aT pb (T.drop (q+1)):=by
 rw [h,hd];simp only [aT,hc,if_true];omega
theorem J7(h:aT pb (T.drop p)=(q-p)+aT pb (T.drop q))(hd:T.drop q=c::T.drop (q+1))(hc:pb (c.toNat:Int)=false):aT pb (T.drop p)=q-p:=by
 rw [h,hd];simp [aT,hc]
theorem J8(h:aT pb (T.drop p)=(q-p)+aT pb (T.drop q))(hd:T.length<=q):aT pb (T.drop p)=q-p:=by
 rw [h,List.drop_eq_nil_of_le hd];simp [aT]
theorem L4{n:Int}(h:bP n=true):ba n=false:=by
 unfold bP at h;unfold ba;simp at h⊢;omega
theorem Wk.step{v:Value}(h:Wk T w p xs lv wr)(hown:w3.ownsRow w.heap.size 361 3 v m (xs.flatMap aY++cs))(hm:m=xs.length+1)(hg:wr.grownBy w3 lv.ownBlock)(hc:cs=aY x)(he:(aD (T.drop p) p).map dV=x::(aD (T.drop q) q).map dV)(hq:p<q):Wk T w q (xs++ [x]) v w3:=by
 subst hc hm
 have h2:∀k,k<w.heap.size->lv.ownBlock≠some k:=λk hk e=>by have:=(aG h.row k e).1;omega
 have hs:=h.dB.size;refine⟨h.dB.trans ⟨hg.os,hg.tape,hg.output,hg.size,λk hk=>hg.block k (by omega) (λe=>h2 k hk e.symm)⟩,?_,?_,?_⟩
 ·have e:(xs++ [x]).flatMap aY=xs.flatMap aY++aY x:=by simp
  rw [e,List.length_append];exact hown
 ·rw [h.eq,he];simp
 have:=h.ku;rw [List.length_append];simp;omega
theorem Wk.done(h:Wk T w p xs lv wr){g cap:Nat}(hown:w3.ownsRow w.heap.size 361 3 (.slice (some ⟨g,0,none⟩) m cap) m (xs.flatMap aY++cs))(hm:m=xs.length+1)(hg:wr.grownBy w3 lv.ownBlock)(hc:cs=aY ⟨101,[],p⟩)(he:T.length<=p)(hb:p<=100000):(aD T 0).length=xs.length+1/\w.heap.size<=g/\lT g ((aD T 0).map dV) w3/\Below w.heap.size w w3:=by
 subst hc hm
 have h2:∀k,k<w.heap.size->lv.ownBlock≠some k:=λk hk e=>by have:=(aG h.row k e).1;omega
 have hs:=h.dB.size
 have e1:(aD T 0).map dV=xs++ [⟨101,[],p⟩]:=by rw [h.eq,List.drop_eq_nil_of_le he,L3]
 have e2:(aD T 0).length=xs.length+1:=by
  have:=congrArg List.length e1;simpa using this
 rcases hown.2 with⟨h0,_⟩|⟨g0,lH,aU,hv,hb0,aed,vJ,hcm,hcs,iX⟩
 ·cases h0
 have eg:g=g0:=by injection hv with q1;injection q1 with q2;injection q2
 subst eg;have hfw:=h.ku;refine⟨e2,hb0,⟨⟨aU,aed,?_⟩,?_⟩,h.dB.trans ⟨hg.os,hg.tape,hg.output,hg.size,λk hk=>hg.block k (by omega) (λe=>h2 k hk e.symm)⟩⟩
 ·rw [e1,List.length_append]
  have e3:(xs++ [(⟨101,[],p⟩:qH)]).flatMap aY=xs.flatMap aY++aY ⟨101,[],p⟩:=by simp
  rw [e3];exact iX
 rw [e1,List.length_append];simp;omega
theorem L5(s:ByteArray)(hT:s.size<=100000)(w:World):Calls prog 233 #[.string s] w λe w'=>∃g cap,e=.returned (.slice (some ⟨g,0,none⟩) (aD s.data.toList 0).length cap)/\w.heap.size<=g/\lT g ((aD s.data.toList 0).map dV) w'/\Below w.heap.size w w':=by
 have KQ:=aa (show s.data.toList.length=s.size by simp)
 go_enter func233,ntmps233
 go_wp2
 go_loopw [3,4] (λlv iv wr=>∃(p:Nat) (xs:List qH),p<=s.size/\iv=.int .i64 p/\Hy (Wk s.data.toList w p xs lv wr)) (λ_ iv _=>s.size-(intOf iv).toNat)
 case atStart=>exact⟨0,[],by omega,rfl,aa ⟨Below.refl _ _,World.ownsRow_nil _ _ _ _,rfl,Nat.le_refl _⟩⟩
 obtain⟨p,xs,hp,rfl,HW⟩:=hrel
 by_cases hlt:p<s.size
 ·have hpi:(p:Int)<(s.size:Int):=by omega
  have hp0:(0:Int)<=(p:Int):=by omega
  have jH:=aa (show s.data.toList.drop p=s[p]::s.data.toList.drop (p+1)from List.drop_eq_getElem_cons (by simpa using hlt))
  rcases hb:bm (s[p].toNat:Int)with _|_
  ·have L6:=aa hb
   unfold bm at hb
   have b1:((s[p].toNat:Int)==32)=false:=by rw [Bool.or_eq_false_iff]at hb;exact hb.1
   have b2:((s[p].toNat:Int)==10)=false:=by rw [Bool.or_eq_false_iff]at hb;exact hb.2
   clear hb
   rcases hl:bP (s[p].toNat:Int)with _|_
   ·rcases hd:ba (s[p].toNat:Int)with _|_
    ·rcases he:((s[p].toNat:Int)==61)with _|_
     ·rcases hs:fK (s[p].toNat:Int)with _|_
      ·have km:=aa hl
       have AO:=aa hd;have L8:=aa he;have M6:=aa hs;unfold fK at hs;simp only [Bool.or_eq_false_iff]at hs;obtain⟨⟨⟨⟨⟨⟨⟨⟨⟨⟨s1,s2⟩,s3⟩,s4⟩,s5⟩,s6⟩,s7⟩,s8⟩,s9⟩,s10⟩,s11⟩:=hs
       have Mw:((p+1:Nat):Int)<=(s.size:Int):=by omega
       go_wp2_with fail
       refine(dr _ _).mono ?_;rintro e w2 ⟨rfl,rfl⟩;rw [hl]
       go_wp2_with fail
       refine(dJ _ _).mono ?_;rintro e w3 ⟨rfl,rfl⟩;rw [hd]
       go_upto_region 26 with fail
       have r_:=aa (zH jH.o L6.o (q:=p+1) (x:=⟨98,[s[p]],p⟩) (by rw [gR km.o AO.o];simp [bB,L8.o,M6.o]) (by rw [gR km.o AO.o];simp [bB,L8.o,M6.o,dV]))
       as_aux_lemma=>
        obtain⟨i0,hi,hz0,hz1,hz2⟩:=info_parts di;obtain⟨so,sc,pM⟩:=ak HW.o.row;subst pM;have hfw:=HW.o.ku;have dH:=HW.o.dB.size
        have b1:xs.length+1<=maxLen:=by unfold maxLen;omega
        have b2:(xs.length+1)*32<=140737488355328:=by omega
        go_wp2_with (at_builtin;refine bC _ rfl _ _ 245 rfl w.heap.size 361 i0 (.agg #[.int .u8 0,.string ⟨#[]⟩,.int .i64 0]) 3 32 underlying245 hi hz0 hz1 hz2 rfl (by decide) (.slice so xs.length sc) xs.length (xs.flatMap aY) rfl ((HW.o.row.alloc _).alloc _) ⟨wr.heap.size+1,0,none⟩ 1 1 [.int .u8 98,.string (s.extract p (p+1)),.int .i64 p] rfl rfl (jq wr _ _ _ _ _) (sS rfl rfl rfl) (by omega) b1 b2 (nw dH _ _) ?_)
        intro g' cap' w4 hown aB aJ
        have vt:=aa (HW.o.step hown rfl (aA (aA aB)) (by first|(simp [aY,bu,jH.o];done)|simp [aY,bu,jH.o,vu.o,show p+1+1-p=2 by omega]) r_.o (by omega))
        clear hown aB aJ hi hz0 hz1 hz2;go_wp2
        go_roundw
        case rel=>exact⟨_,_,by omega,by go_num,vt⟩
        case measure=>simp [intOf];omega
      ·have km:=aa hl
       have AO:=aa hd;have L8:=aa he;have M6:=aa hs;clear hs
       have Mw:((p+1:Nat):Int)<=(s.size:Int):=by omega
       have r_:=aa (zH jH.o L6.o (q:=p+1) (x:=⟨115,[s[p]],p⟩) (by rw [gR km.o AO.o];simp [bB,L8.o,M6.o]) (by rw [gR km.o AO.o];simp [bB,L8.o,M6.o,km.o,dV]))
       rcases s1:((s[p].toNat:Int)==40)with _|_
       rcases s2:((s[p].toNat:Int)==41)with _|_
       rcases s3:((s[p].toNat:Int)==58)with _|_
       rcases s4:((s[p].toNat:Int)==44)with _|_
       rcases s5:((s[p].toNat:Int)==59)with _|_
       rcases s6:((s[p].toNat:Int)==60)with _|_
       rcases s7:((s[p].toNat:Int)==43)with _|_
       rcases s8:((s[p].toNat:Int)==45)with _|_
       rcases s9:((s[p].toNat:Int)==42)with _|_
       rcases s10:((s[p].toNat:Int)==47)with _|_
       rcases s11:((s[p].toNat:Int)==33)with _|_
       ·exfalso
        have:=M6.o;unfold fK at this;simp [s1,s2,s3,s4,s5,s6,s7,s8,s9,s10,s11]at this
       all_goals
        as_aux_lemma=>
         go_wp2_with fail
         refine(dr _ _).mono ?_;rintro e w2 ⟨rfl,rfl⟩;rw [hl]
         go_wp2_with fail
         refine(dJ _ _).mono ?_;rintro e w3 ⟨rfl,rfl⟩;rw [hd]
         go_upto_region 26 with fail
         as_aux_lemma=>
          obtain⟨i0,hi,hz0,hz1,hz2⟩:=info_parts di;obtain⟨so,sc,pM⟩:=ak HW.o.row;subst pM;have hfw:=HW.o.ku;have dH:=HW.o.dB.size
          have b1:xs.length+1<=maxLen:=by unfold maxLen;omega
          have b2:(xs.length+1)*32<=140737488355328:=by omega
          go_wp2_with (at_builtin;refine bC _ rfl _ _ 245 rfl w.heap.size 361 i0 (.agg #[.int .u8 0,.string ⟨#[]⟩,.int .i64 0]) 3 32 underlying245 hi hz0 hz1 hz2 rfl (by decide) (.slice so xs.length sc) xs.length (xs.flatMap aY) rfl ((HW.o.row.alloc _).alloc _) ⟨wr.heap.size+1,0,none⟩ 1 1 [.int .u8 115,.string (s.extract p (p+1)),.int .i64 p] rfl rfl (jq wr _ _ _ _ _) (sS rfl rfl rfl) (by omega) b1 b2 (nw dH _ _) ?_)
          intro g' cap' w4 hown aB aJ
          have vt:=aa (HW.o.step hown rfl (aA (aA aB)) (by first|(simp [aY,bu,jH.o];done)|simp [aY,bu,jH.o,vu.o,show p+1+1-p=2 by omega]) r_.o (by omega))
          clear hown aB aJ hi hz0 hz1 hz2;go_wp2
          go_roundw
          case rel=>exact⟨_,_,by omega,by go_num,vt⟩
          case measure=>simp [intOf];omega
     ·have km:=aa hl
      have AO:=aa hd;have L8:=aa he;have H61:=aa (show(s[p].toNat:Int)=61 by simpa using he)
      have s1:((s[p].toNat:Int)==40)=false:=by rw [H61.o];rfl
      have s2:((s[p].toNat:Int)==41)=false:=by rw [H61.o];rfl
      have s3:((s[p].toNat:Int)==58)=false:=by rw [H61.o];rfl
      have s4:((s[p].toNat:Int)==44)=false:=by rw [H61.o];rfl
      have Mw:((p+1:Nat):Int)<=(s.size:Int):=by omega
      by_cases hq:p+1<s.size
      ·have Ua:((p+1:Nat):Int)<(s.size:Int):=by omega
       have vu:=aa (show s.data.toList.drop (p+1)=s[p+1]::s.data.toList.drop (p+1+1)from List.drop_eq_getElem_cons (by simpa using hq))
       rcases hz:((s[p+1].toNat:Int)==61)with _|_
       ·have L9:=aa hz
        have r_:=aa (zH jH.o L6.o (q:=p+1) (x:=⟨115,[s[p]],p⟩) (by rw [gR km.o AO.o,vu.o];simp only [bB,L8.o,L9.o];simp) (by rw [gR km.o AO.o,vu.o];simp only [bB,L8.o,L9.o];simp [dV,km.o]))
        as_aux_lemma=>
         go_wp2_with fail
         refine(dr _ _).mono ?_;rintro e w2 ⟨rfl,rfl⟩;rw [hl]
         go_wp2_with fail
         refine(dJ _ _).mono ?_;rintro e w3 ⟨rfl,rfl⟩;rw [hd]
         go_upto_region 26 with fail
         as_aux_lemma=>
          obtain⟨i0,hi,hz0,hz1,hz2⟩:=info_parts di;obtain⟨so,sc,pM⟩:=ak HW.o.row;subst pM;have hfw:=HW.o.ku;have dH:=HW.o.dB.size
          have b1:xs.length+1<=maxLen:=by unfold maxLen;omega
          have b2:(xs.length+1)*32<=140737488355328:=by omega
          go_wp2_with (at_builtin;refine bC _ rfl _ _ 245 rfl w.heap.size 361 i0 (.agg #[.int .u8 0,.string ⟨#[]⟩,.int .i64 0]) 3 32 underlying245 hi hz0 hz1 hz2 rfl (by decide) (.slice so xs.length sc) xs.length (xs.flatMap aY) rfl ((HW.o.row.alloc _).alloc _) ⟨wr.heap.size+1,0,none⟩ 1 1 [.int .u8 115,.string (s.extract p (p+1)),.int .i64 p] rfl rfl (jq wr _ _ _ _ _) (sS rfl rfl rfl) (by omega) b1 b2 (nw dH _ _) ?_)
          intro g' cap' w4 hown aB aJ
          have vt:=aa (HW.o.step hown rfl (aA (aA aB)) (by first|(simp [aY,bu,jH.o];done)|simp [aY,bu,jH.o,vu.o,show p+1+1-p=2 by omega]) r_.o (by omega))
          clear hown aB aJ hi hz0 hz1 hz2;go_wp2
          go_roundw
          case rel=>exact⟨_,_,by omega,by go_num,vt⟩
          case measure=>simp [intOf];omega
       ·have L9:=aa hz
        have ad6:((p+1+1:Nat):Int)<=(s.size:Int):=by omega
        have r_:=aa (zH jH.o L6.o (q:=p+1+1) (x:=⟨115,[s[p],s[p+1]],p⟩) (by rw [gR km.o AO.o,vu.o];simp only [bB,L8.o,L9.o];simp) (by rw [gR km.o AO.o,vu.o];simp only [bB,L8.o,L9.o];simp [dV,km.o]))
        go_wp2_with fail
        refine(dr _ _).mono ?_;rintro e w2 ⟨rfl,rfl⟩;rw [hl]
        go_wp2_with fail
        refine(dJ _ _).mono ?_;rintro e w3 ⟨rfl,rfl⟩;rw [hd]
        go_upto_region 26 with fail
        as_aux_lemma=>
         obtain⟨i0,hi,hz0,hz1,hz2⟩:=info_parts di;obtain⟨so,sc,pM⟩:=ak HW.o.row;subst pM;have hfw:=HW.o.ku;have dH:=HW.o.dB.size
         have b1:xs.length+1<=maxLen:=by unfold maxLen;omega
         have b2:(xs.length+1)*32<=140737488355328:=by omega
         go_wp2_with (at_builtin;refine bC _ rfl _ _ 245 rfl w.heap.size 361 i0 (.agg #[.int .u8 0,.string ⟨#[]⟩,.int .i64 0]) 3 32 underlying245 hi hz0 hz1 hz2 rfl (by decide) (.slice so xs.length sc) xs.length (xs.flatMap aY) rfl ((HW.o.row.alloc _).alloc _) ⟨wr.heap.size+1,0,none⟩ 1 1 [.int .u8 115,.string (s.extract p (p+1+1)),.int .i64 p] rfl rfl (jq wr _ _ _ _ _) (sS rfl rfl rfl) (by omega) b1 b2 (nw dH _ _) ?_)
         intro g' cap' w4 hown aB aJ
         have vt:=aa (HW.o.step hown rfl (aA (aA aB)) (by first|(simp [aY,bu,jH.o];done)|simp [aY,bu,jH.o,vu.o,show p+1+1-p=2 by omega]) r_.o (by omega))
         clear hown aB aJ hi hz0 hz1 hz2;go_wp2
         go_roundw
         case rel=>exact⟨_,_,by omega,by go_num,vt⟩
         case measure=>simp [intOf];omega
      ·have Ua:¬((p+1:Nat):Int)<(s.size:Int):=by omega
       have vu:=aa (show s.data.toList.drop (p+1)= []from List.drop_eq_nil_of_le (by rw [KQ.o];omega));have r_:=aa (zH jH.o L6.o (q:=p+1) (x:=⟨115,[s[p]],p⟩) (by rw [gR km.o AO.o,vu.o];simp only [bB,L8.o];simp) (by rw [gR km.o AO.o,vu.o];simp only [bB,L8.o];simp [dV,km.o]))
       as_aux_lemma=>
        go_wp2_with fail
        refine(dr _ _).mono ?_;rintro e w2 ⟨rfl,rfl⟩;rw [hl]
        go_wp2_with fail
        refine(dJ _ _).mono ?_;rintro e w3 ⟨rfl,rfl⟩;rw [hd]
        go_upto_region 26 with fail
        as_aux_lemma=>
         obtain⟨i0,hi,hz0,hz1,hz2⟩:=info_parts di;obtain⟨so,sc,pM⟩:=ak HW.o.row;subst pM;have hfw:=HW.o.ku;have dH:=HW.o.dB.size
         have b1:xs.length+1<=maxLen:=by unfold maxLen;omega
         have b2:(xs.length+1)*32<=140737488355328:=by omega
         go_wp2_with (at_builtin;refine bC _ rfl _ _ 245 rfl w.heap.size 361 i0 (.agg #[.int .u8 0,.string ⟨#[]⟩,.int .i64 0]) 3 32 underlying245 hi hz0 hz1 hz2 rfl (by decide) (.slice so xs.length sc) xs.length (xs.flatMap aY) rfl ((HW.o.row.alloc _).alloc _) ⟨wr.heap.size+1,0,none⟩ 1 1 [.int .u8 115,.string (s.extract p (p+1)),.int .i64 p] rfl rfl (jq wr _ _ _ _ _) (sS rfl rfl rfl) (by omega) b1 b2 (nw dH _ _) ?_)
         intro g' cap' w4 hown aB aJ
         have vt:=aa (HW.o.step hown rfl (aA (aA aB)) (by first|(simp [aY,bu,jH.o];done)|simp [aY,bu,jH.o,vu.o,show p+1+1-p=2 by omega]) r_.o (by omega))
         clear hown aB aJ hi hz0 hz1 hz2;go_wp2
         go_roundw
         case rel=>exact⟨_,_,by omega,by go_num,vt⟩
         case measure=>simp [intOf];omega
    ·obtain⟨wo,Ww⟩:∃x,x=wr:=⟨_,rfl⟩
     subst Ww;have km:=aa hl;have AO:=aa hd
     go_wp2_with fail
     refine(dr _ _).mono ?_;rintro e w2 ⟨rfl,rfl⟩;rw [hl]
     go_wp2_with fail
     refine(dJ _ _).mono ?_;rintro e w2 ⟨rfl,rfl⟩;rw [hd]
     go_wp2_with fail
     go_loopw [4] (λiv wr'=>∃q:Nat,p<q/\q<=s.size/\iv=.int .i64 q/\wr'=wo.alloc (.cells #[.int .u8 98,.string ⟨#[]⟩,.int .i64 p] 361)/\Hy (aT ba (s.data.toList.drop p)=(q-p)+aT ba (s.data.toList.drop q))) (λiv _=>s.size-(intOf iv).toNat)
     case atStart=>exact⟨p+1,by omega,by omega,by go_num,rfl,aa (zI (by simp) jH.o hd (Nat.le_refl _))⟩
     case round=>
      obtain⟨q,Wv,hqs,rfl,rfl,Uj⟩:=hrel
      have abT:(p:Int)<=(q:Int):=by omega
      have abU:(q:Int)<=(s.size:Int):=by omega
      by_cases hq:q<s.size
      ·have Ua:(q:Int)<(s.size:Int):=by omega
       have Ys:(0:Int)<=(q:Int):=by omega
       have vu:=aa (show s.data.toList.drop q=s[q]::s.data.toList.drop (q+1)from List.drop_eq_getElem_cons (by simpa using hq))
       go_wp2_with fail
       refine(dJ _ _).mono ?_;rintro e w3 ⟨rfl,rfl⟩
       rcases QO:ba (s[q].toNat:Int)with _|_
       ·have HE:=aa (J7 Uj.o vu.o QO)
        clear QO
        go_wp2_with fail
        refine(dr _ _).mono ?_;rintro e w4 ⟨rfl,rfl⟩;rw [hl]
        as_aux_lemma=>
         have Gx:=aa (Fk jH.o L6.o km.o AO.o HE.o Wv)
         have hk:bS (s.extract p q).data.toList=false:=by rw [cF];exact Gx.o.2.1
         have hn:cw (s.extract p q).data.toList=false:=by rw [cF];exact Gx.o.2.2
         go_wp2_with fail
         refine(pC _ _ (by simp;omega)).mono ?_;rintro e w5 ⟨rfl,rfl⟩;rw [hn]
         go_wp2_with fail
         refine(iz _ _).mono ?_;rintro e w6 ⟨rfl,rfl⟩;rw [hk];clear hk hn
         go_wp2_with fail
         refine(dJ _ _).mono ?_;rintro e w7 ⟨rfl,rfl⟩;rw [hd]
         by_cases h9:(q:Int)-(p:Int)<=9
         ·have r_:=aa (show(aD (s.data.toList.drop p) p).map dV=(⟨100,(s.data.toList.drop p).take (q-p),p⟩:qH)::(aD (s.data.toList.drop q) q).map dV by refine Gx.o.1.trans ?_;rw [if_pos (by omega)])
          go_upto_region 26 with fail
          as_aux_lemma=>
           obtain⟨i0,hi,hz0,hz1,hz2⟩:=info_parts di;obtain⟨so,sc,pM⟩:=ak HW.o.row;subst pM;have hfw:=HW.o.ku;have dH:=HW.o.dB.size
           have b1:xs.length+1<=maxLen:=by unfold maxLen;omega
           have b2:(xs.length+1)*32<=140737488355328:=by omega
           go_wp2_with (at_builtin;refine bC _ rfl _ _ 245 rfl w.heap.size 361 i0 (.agg #[.int .u8 0,.string ⟨#[]⟩,.int .i64 0]) 3 32 underlying245 hi hz0 hz1 hz2 rfl (by decide) (.slice so xs.length sc) xs.length (xs.flatMap aY) rfl ((HW.o.row.alloc _).alloc _) ⟨wo.heap.size+1,0,none⟩ 1 1 [.int .u8 100,.string (s.extract p (q)),.int .i64 p] rfl rfl (jq wo _ _ _ _ _) (sS rfl rfl rfl) (by omega) b1 b2 (nw dH _ _) ?_)
           intro g' cap' w4 hown aB aJ
           have vt:=aa (HW.o.step hown rfl (aA (aA aB)) (by first|(simp [aY,bu,jH.o];done)|simp [aY,bu,jH.o,vu.o,show p+1+1-p=2 by omega]) r_.o (by omega))
           clear hown aB aJ hi hz0 hz1 hz2;go_wp2
           go_roundw
           case rel=>exact⟨_,_,by omega,by go_num,vt⟩
           case measure=>simp [intOf];omega
         ·have r_:=aa (show(aD (s.data.toList.drop p) p).map dV=(⟨98,(s.data.toList.drop p).take (q-p),p⟩:qH)::(aD (s.data.toList.drop q) q).map dV by refine Gx.o.1.trans ?_;rw [if_neg (by omega)])
          go_upto_region 26 with fail
          as_aux_lemma=>
           obtain⟨i0,hi,hz0,hz1,hz2⟩:=info_parts di;obtain⟨so,sc,pM⟩:=ak HW.o.row;subst pM;have hfw:=HW.o.ku;have dH:=HW.o.dB.size
           have b1:xs.length+1<=maxLen:=by unfold maxLen;omega
           have b2:(xs.length+1)*32<=140737488355328:=by omega
           go_wp2_with (at_builtin;refine bC _ rfl _ _ 245 rfl w.heap.size 361 i0 (.agg #[.int .u8 0,.string ⟨#[]⟩,.int .i64 0]) 3 32 underlying245 hi hz0 hz1 hz2 rfl (by decide) (.slice so xs.length sc) xs.length (xs.flatMap aY) rfl ((HW.o.row.alloc _).alloc _) ⟨wo.heap.size+1,0,none⟩ 1 1 [.int .u8 98,.string (s.extract p (q)),.int .i64 p] rfl rfl (jq wo _ _ _ _ _) (sS rfl rfl rfl) (by omega) b1 b2 (nw dH _ _) ?_)
           intro g' cap' w4 hown aB aJ
           have vt:=aa (HW.o.step hown rfl (aA (aA aB)) (by first|(simp [aY,bu,jH.o];done)|simp [aY,bu,jH.o,vu.o,show p+1+1-p=2 by omega]) r_.o (by omega))
           clear hown aB aJ hi hz0 hz1 hz2;go_wp2
           go_roundw
           case rel=>exact⟨_,_,by omega,by go_num,vt⟩
           case measure=>simp [intOf];omega
       ·have mY:=aa (zI Uj.o vu.o QO (by omega))
        clear QO
        go_wp2_with fail
        go_roundw
        case rel=>exact⟨q+1,by omega,by omega,by go_num,by first|trivial|rfl,mY⟩
        case measure=>simp [intOf];omega
      ·have HE:=aa (J8 Uj.o (by rw [KQ.o];omega))
       have Ua:¬(q:Int)<(s.size:Int):=by omega
       as_aux_lemma=>
        have Gx:=aa (Fk jH.o L6.o km.o AO.o HE.o Wv)
        have hk:bS (s.extract p q).data.toList=false:=by rw [cF];exact Gx.o.2.1
        have hn:cw (s.extract p q).data.toList=false:=by rw [cF];exact Gx.o.2.2
        go_wp2_with fail
        refine(pC _ _ (by simp;omega)).mono ?_;rintro e w5 ⟨rfl,rfl⟩;rw [hn]
        go_wp2_with fail
        refine(iz _ _).mono ?_;rintro e w6 ⟨rfl,rfl⟩;rw [hk];clear hk hn
        go_wp2_with fail
        refine(dJ _ _).mono ?_;rintro e w7 ⟨rfl,rfl⟩;rw [hd]
        by_cases h9:(q:Int)-(p:Int)<=9
        ·have r_:=aa (show(aD (s.data.toList.drop p) p).map dV=(⟨100,(s.data.toList.drop p).take (q-p),p⟩:qH)::(aD (s.data.toList.drop q) q).map dV by refine Gx.o.1.trans ?_;rw [if_pos (by omega)])
         go_upto_region 26 with fail
         as_aux_lemma=>
          obtain⟨i0,hi,hz0,hz1,hz2⟩:=info_parts di;obtain⟨so,sc,pM⟩:=ak HW.o.row;subst pM;have hfw:=HW.o.ku;have dH:=HW.o.dB.size
          have b1:xs.length+1<=maxLen:=by unfold maxLen;omega
          have b2:(xs.length+1)*32<=140737488355328:=by omega
          go_wp2_with (at_builtin;refine bC _ rfl _ _ 245 rfl w.heap.size 361 i0 (.agg #[.int .u8 0,.string ⟨#[]⟩,.int .i64 0]) 3 32 underlying245 hi hz0 hz1 hz2 rfl (by decide) (.slice so xs.length sc) xs.length (xs.flatMap aY) rfl ((HW.o.row.alloc _).alloc _) ⟨wo.heap.size+1,0,none⟩ 1 1 [.int .u8 100,.string (s.extract p (q)),.int .i64 p] rfl rfl (jq wo _ _ _ _ _) (sS rfl rfl rfl) (by omega) b1 b2 (nw dH _ _) ?_)
          intro g' cap' w4 hown aB aJ
          have vt:=aa (HW.o.step hown rfl (aA (aA aB)) (by first|(simp [aY,bu,jH.o];done)|simp [aY,bu,jH.o,vu.o,show p+1+1-p=2 by omega]) r_.o (by omega))
          clear hown aB aJ hi hz0 hz1 hz2;go_wp2
          go_roundw
          case rel=>exact⟨_,_,by omega,by go_num,vt⟩
          case measure=>simp [intOf];omega
        ·have r_:=aa (show(aD (s.data.toList.drop p) p).map dV=(⟨98,(s.data.toList.drop p).take (q-p),p⟩:qH)::(aD (s.data.toList.drop q) q).map dV by refine Gx.o.1.trans ?_;rw [if_neg (by omega)])
         go_upto_region 26 with fail
         as_aux_lemma=>
          obtain⟨i0,hi,hz0,hz1,hz2⟩:=info_parts di;obtain⟨so,sc,pM⟩:=ak HW.o.row;subst pM;have hfw:=HW.o.ku;have dH:=HW.o.dB.size
          have b1:xs.length+1<=maxLen:=by unfold maxLen;omega
          have b2:(xs.length+1)*32<=140737488355328:=by omega
          go_wp2_with (at_builtin;refine bC _ rfl _ _ 245 rfl w.heap.size 361 i0 (.agg #[.int .u8 0,.string ⟨#[]⟩,.int .i64 0]) 3 32 underlying245 hi hz0 hz1 hz2 rfl (by decide) (.slice so xs.length sc) xs.length (xs.flatMap aY) rfl ((HW.o.row.alloc _).alloc _) ⟨wo.heap.size+1,0,none⟩ 1 1 [.int .u8 98,.string (s.extract p (q)),.int .i64 p] rfl rfl (jq wo _ _ _ _ _) (sS rfl rfl rfl) (by omega) b1 b2 (nw dH _ _) ?_)
          intro g' cap' w4 hown aB aJ
          have vt:=aa (HW.o.step hown rfl (aA (aA aB)) (by first|(simp [aY,bu,jH.o];done)|simp [aY,bu,jH.o,vu.o,show p+1+1-p=2 by omega]) r_.o (by omega))
          clear hown aB aJ hi hz0 hz1 hz2;go_wp2
          go_roundw
          case rel=>exact⟨_,_,by omega,by go_num,vt⟩
          case measure=>simp [intOf];omega
   ·obtain⟨wo,Ww⟩:∃x,x=wr:=⟨_,rfl⟩
    subst Ww;have km:=aa hl;have hnd:=L4 hl
    go_wp2_with fail
    refine(dr _ _).mono ?_;rintro e w2 ⟨rfl,rfl⟩;rw [hl]
    go_wp2_with fail
    go_loopw [4] (λiv wr'=>∃q:Nat,p<q/\q<=s.size/\iv=.int .i64 q/\wr'=wo.alloc (.cells #[.int .u8 98,.string ⟨#[]⟩,.int .i64 p] 361)/\Hy (aT aS (s.data.toList.drop p)=(q-p)+aT aS (s.data.toList.drop q))) (λiv _=>s.size-(intOf iv).toNat)
    case atStart=>exact⟨p+1,by omega,by omega,by go_num,rfl,aa (zI (by simp) jH.o (by unfold aS;rw [hl];rfl) (Nat.le_refl _))⟩
    case round=>
     obtain⟨q,Wv,hqs,rfl,rfl,Uj⟩:=hrel
     have abT:(p:Int)<=(q:Int):=by omega
     have abU:(q:Int)<=(s.size:Int):=by omega
     by_cases hq:q<s.size
     ·have Ua:(q:Int)<(s.size:Int):=by omega
      have Ys:(0:Int)<=(q:Int):=by omega
      have vu:=aa (show s.data.toList.drop q=s[q]::s.data.toList.drop (q+1)from List.drop_eq_getElem_cons (by simpa using hq))
      go_wp2_with fail
      refine(dJ _ _).mono ?_;rintro e w3 ⟨rfl,rfl⟩
      rcases QO:ba (s[q].toNat:Int)with _|_
      ·go_wp2_with fail
       refine(dr _ _).mono ?_;rintro e w4 ⟨rfl,rfl⟩;rw [hl]
       go_wp2_with fail
       refine(dr _ _).mono ?_;rintro e w5 ⟨rfl,rfl⟩
       rcases Ll:bP (s[q].toNat:Int)with _|_
       ·have HE:=aa (J7 Uj.o vu.o (by unfold aS;rw [Ll,QO];rfl))
        clear Ll QO
        as_aux_lemma=>
         go_wp2_with fail
         refine(pC _ _ (by simp;omega)).mono ?_;rintro e w5 ⟨rfl,rfl⟩;obtain⟨bn,Wx⟩:∃b,b=cw (s.extract p q).data.toList:=⟨_,rfl⟩;rw [<-Wx];have qd:=aa Wx;clear Wx
         go_wp2_with fail
         refine(iz _ _).mono ?_;rintro e w6 ⟨rfl,rfl⟩;obtain⟨bk,jX⟩:∃b,b=bS (s.extract p q).data.toList:=⟨_,rfl⟩;rw [<-jX];have qD:=aa jX;clear jX;have M9:=aa (BN jH.o L6.o km.o HE.o Wv)
         rcases bk with _|_
         ·rcases bn with _|_
          ·have r_:=aa (show(aD (s.data.toList.drop p) p).map dV=(⟨98,(s.data.toList.drop p).take (q-p),p⟩:qH)::(aD (s.data.toList.drop q) q).map dV by refine M9.o.trans ?_;unfold vr;rw [<-cF,<-qD.o,<-qd.o];rfl)
           clear qD qd
           go_wp2_with fail
           refine(dJ _ _).mono ?_;rintro e w7 ⟨rfl,rfl⟩;rw [hnd]
           go_upto_region 26 with fail
           as_aux_lemma=>
            obtain⟨i0,hi,hz0,hz1,hz2⟩:=info_parts di;obtain⟨so,sc,pM⟩:=ak HW.o.row;subst pM;have hfw:=HW.o.ku;have dH:=HW.o.dB.size
            have b1:xs.length+1<=maxLen:=by unfold maxLen;omega
            have b2:(xs.length+1)*32<=140737488355328:=by omega
            go_wp2_with (at_builtin;refine bC _ rfl _ _ 245 rfl w.heap.size 361 i0 (.agg #[.int .u8 0,.string ⟨#[]⟩,.int .i64 0]) 3 32 underlying245 hi hz0 hz1 hz2 rfl (by decide) (.slice so xs.length sc) xs.length (xs.flatMap aY) rfl ((HW.o.row.alloc _).alloc _) ⟨wo.heap.size+1,0,none⟩ 1 1 [.int .u8 98,.string (s.extract p (q)),.int .i64 p] rfl rfl (jq wo _ _ _ _ _) (sS rfl rfl rfl) (by omega) b1 b2 (nw dH _ _) ?_)
            intro g' cap' w4 hown aB aJ
            have vt:=aa (HW.o.step hown rfl (aA (aA aB)) (by first|(simp [aY,bu,jH.o];done)|simp [aY,bu,jH.o,vu.o,show p+1+1-p=2 by omega]) r_.o (by omega))
            clear hown aB aJ hi hz0 hz1 hz2;go_wp2
            go_roundw
            case rel=>exact⟨_,_,by omega,by go_num,vt⟩
            case measure=>simp [intOf];omega
          ·have r_:=aa (show(aD (s.data.toList.drop p) p).map dV=(⟨110,(s.data.toList.drop p).take (q-p),p⟩:qH)::(aD (s.data.toList.drop q) q).map dV by refine M9.o.trans ?_;unfold vr;rw [<-cF,<-qD.o,<-qd.o];rfl)
           clear qD qd
           go_upto_region 26 with fail
           as_aux_lemma=>
            obtain⟨i0,hi,hz0,hz1,hz2⟩:=info_parts di;obtain⟨so,sc,pM⟩:=ak HW.o.row;subst pM;have hfw:=HW.o.ku;have dH:=HW.o.dB.size
            have b1:xs.length+1<=maxLen:=by unfold maxLen;omega
            have b2:(xs.length+1)*32<=140737488355328:=by omega
            go_wp2_with (at_builtin;refine bC _ rfl _ _ 245 rfl w.heap.size 361 i0 (.agg #[.int .u8 0,.string ⟨#[]⟩,.int .i64 0]) 3 32 underlying245 hi hz0 hz1 hz2 rfl (by decide) (.slice so xs.length sc) xs.length (xs.flatMap aY) rfl ((HW.o.row.alloc _).alloc _) ⟨wo.heap.size+1,0,none⟩ 1 1 [.int .u8 110,.string (s.extract p (q)),.int .i64 p] rfl rfl (jq wo _ _ _ _ _) (sS rfl rfl rfl) (by omega) b1 b2 (nw dH _ _) ?_)
            intro g' cap' w4 hown aB aJ
            have vt:=aa (HW.o.step hown rfl (aA (aA aB)) (by first|(simp [aY,bu,jH.o];done)|simp [aY,bu,jH.o,vu.o,show p+1+1-p=2 by omega]) r_.o (by omega))
            clear hown aB aJ hi hz0 hz1 hz2;go_wp2
            go_roundw
            case rel=>exact⟨_,_,by omega,by go_num,vt⟩
            case measure=>simp [intOf];omega
         ·have r_:=aa (show(aD (s.data.toList.drop p) p).map dV=(⟨107,(s.data.toList.drop p).take (q-p),p⟩:qH)::(aD (s.data.toList.drop q) q).map dV by refine M9.o.trans ?_;unfold vr;rw [<-cF,<-qD.o];rfl)
          clear qD
          go_upto_region 26 with fail
          as_aux_lemma=>
           obtain⟨i0,hi,hz0,hz1,hz2⟩:=info_parts di;obtain⟨so,sc,pM⟩:=ak HW.o.row;subst pM;have hfw:=HW.o.ku;have dH:=HW.o.dB.size
           have b1:xs.length+1<=maxLen:=by unfold maxLen;omega
           have b2:(xs.length+1)*32<=140737488355328:=by omega
           go_wp2_with (at_builtin;refine bC _ rfl _ _ 245 rfl w.heap.size 361 i0 (.agg #[.int .u8 0,.string ⟨#[]⟩,.int .i64 0]) 3 32 underlying245 hi hz0 hz1 hz2 rfl (by decide) (.slice so xs.length sc) xs.length (xs.flatMap aY) rfl ((HW.o.row.alloc _).alloc _) ⟨wo.heap.size+1,0,none⟩ 1 1 [.int .u8 107,.string (s.extract p (q)),.int .i64 p] rfl rfl (jq wo _ _ _ _ _) (sS rfl rfl rfl) (by omega) b1 b2 (nw dH _ _) ?_)
           intro g' cap' w4 hown aB aJ
           have vt:=aa (HW.o.step hown rfl (aA (aA aB)) (by first|(simp [aY,bu,jH.o];done)|simp [aY,bu,jH.o,vu.o,show p+1+1-p=2 by omega]) r_.o (by omega))
           clear hown aB aJ hi hz0 hz1 hz2;go_wp2
           go_roundw
           case rel=>exact⟨_,_,by omega,by go_num,vt⟩
           case measure=>simp [intOf];omega
       ·have mY:=aa (zI Uj.o vu.o (by unfold aS;rw [Ll];rfl) (by omega))
        clear Ll QO
        go_wp2_with fail
        go_roundw
        case rel=>exact⟨q+1,by omega,by omega,by go_num,by first|trivial|rfl,mY⟩
        case measure=>simp [intOf];omega
      ·have mY:=aa (zI Uj.o vu.o (by unfold aS;rw [QO];simp) (by omega))
       clear QO
       go_wp2_with fail
       go_roundw
       case rel=>exact⟨q+1,by omega,by omega,by go_num,by first|trivial|rfl,mY⟩
       case measure=>simp [intOf];omega
     ·have HE:=aa (J8 Uj.o (by rw [KQ.o];omega))
      have Ua:¬(q:Int)<(s.size:Int):=by omega
      as_aux_lemma=>
       go_wp2_with fail
       refine(pC _ _ (by simp;omega)).mono ?_;rintro e w5 ⟨rfl,rfl⟩;obtain⟨bn,Wx⟩:∃b,b=cw (s.extract p q).data.toList:=⟨_,rfl⟩;rw [<-Wx];have qd:=aa Wx;clear Wx
       go_wp2_with fail
       refine(iz _ _).mono ?_;rintro e w6 ⟨rfl,rfl⟩;obtain⟨bk,jX⟩:∃b,b=bS (s.extract p q).data.toList:=⟨_,rfl⟩;rw [<-jX];have qD:=aa jX;clear jX;have M9:=aa (BN jH.o L6.o km.o HE.o Wv)
       rcases bk with _|_
       ·rcases bn with _|_
        ·have r_:=aa (show(aD (s.data.toList.drop p) p).map dV=(⟨98,(s.data.toList.drop p).take (q-p),p⟩:qH)::(aD (s.data.toList.drop q) q).map dV by refine M9.o.trans ?_;unfold vr;rw [<-cF,<-qD.o,<-qd.o];rfl)
         clear qD qd
         go_wp2_with fail
         refine(dJ _ _).mono ?_;rintro e w7 ⟨rfl,rfl⟩;rw [hnd]
         go_upto_region 26 with fail
         as_aux_lemma=>
          obtain⟨i0,hi,hz0,hz1,hz2⟩:=info_parts di;obtain⟨so,sc,pM⟩:=ak HW.o.row;subst pM;have hfw:=HW.o.ku;have dH:=HW.o.dB.size
          have b1:xs.length+1<=maxLen:=by unfold maxLen;omega
          have b2:(xs.length+1)*32<=140737488355328:=by omega
          go_wp2_with (at_builtin;refine bC _ rfl _ _ 245 rfl w.heap.size 361 i0 (.agg #[.int .u8 0,.string ⟨#[]⟩,.int .i64 0]) 3 32 underlying245 hi hz0 hz1 hz2 rfl (by decide) (.slice so xs.length sc) xs.length (xs.flatMap aY) rfl ((HW.o.row.alloc _).alloc _) ⟨wo.heap.size+1,0,none⟩ 1 1 [.int .u8 98,.string (s.extract p (q)),.int .i64 p] rfl rfl (jq wo _ _ _ _ _) (sS rfl rfl rfl) (by omega) b1 b2 (nw dH _ _) ?_)
          intro g' cap' w4 hown aB aJ
          have vt:=aa (HW.o.step hown rfl (aA (aA aB)) (by first|(simp [aY,bu,jH.o];done)|simp [aY,bu,jH.o,vu.o,show p+1+1-p=2 by omega]) r_.o (by omega))
          clear hown aB aJ hi hz0 hz1 hz2;go_wp2
          go_roundw
          case rel=>exact⟨_,_,by omega,by go_num,vt⟩
          case measure=>simp [intOf];omega
        ·have r_:=aa (show(aD (s.data.toList.drop p) p).map dV=(⟨110,(s.data.toList.drop p).take (q-p),p⟩:qH)::(aD (s.data.toList.drop q) q).map dV by refine M9.o.trans ?_;unfold vr;rw [<-cF,<-qD.o,<-qd.o];rfl)
         clear qD qd
         go_upto_region 26 with fail
         as_aux_lemma=>
          obtain⟨i0,hi,hz0,hz1,hz2⟩:=info_parts di;obtain⟨so,sc,pM⟩:=ak HW.o.row;subst pM;have hfw:=HW.o.ku;have dH:=HW.o.dB.size
          have b1:xs.length+1<=maxLen:=by unfold maxLen;omega
          have b2:(xs.length+1)*32<=140737488355328:=by omega
          go_wp2_with (at_builtin;refine bC _ rfl _ _ 245 rfl w.heap.size 361 i0 (.agg #[.int .u8 0,.string ⟨#[]⟩,.int .i64 0]) 3 32 underlying245 hi hz0 hz1 hz2 rfl (by decide) (.slice so xs.length sc) xs.length (xs.flatMap aY) rfl ((HW.o.row.alloc _).alloc _) ⟨wo.heap.size+1,0,none⟩ 1 1 [.int .u8 110,.string (s.extract p (q)),.int .i64 p] rfl rfl (jq wo _ _ _ _ _) (sS rfl rfl rfl) (by omega) b1 b2 (nw dH _ _) ?_)
          intro g' cap' w4 hown aB aJ
          have vt:=aa (HW.o.step hown rfl (aA (aA aB)) (by first|(simp [aY,bu,jH.o];done)|simp [aY,bu,jH.o,vu.o,show p+1+1-p=2 by omega]) r_.o (by omega))
          clear hown aB aJ hi hz0 hz1 hz2;go_wp2
          go_roundw
          case rel=>exact⟨_,_,by omega,by go_num,vt⟩
          case measure=>simp [intOf];omega
       ·have r_:=aa (show(aD (s.data.toList.drop p) p).map dV=(⟨107,(s.data.toList.drop p).take (q-p),p⟩:qH)::(aD (s.data.toList.drop q) q).map dV by refine M9.o.trans ?_;unfold vr;rw [<-cF,<-qD.o];rfl)
        clear qD
        go_upto_region 26 with fail
        as_aux_lemma=>
         obtain⟨i0,hi,hz0,hz1,hz2⟩:=info_parts di;obtain⟨so,sc,pM⟩:=ak HW.o.row;subst pM;have hfw:=HW.o.ku;have dH:=HW.o.dB.size
         have b1:xs.length+1<=maxLen:=by unfold maxLen;omega
         have b2:(xs.length+1)*32<=140737488355328:=by omega
         go_wp2_with (at_builtin;refine bC _ rfl _ _ 245 rfl w.heap.size 361 i0 (.agg #[.int .u8 0,.string ⟨#[]⟩,.int .i64 0]) 3 32 underlying245 hi hz0 hz1 hz2 rfl (by decide) (.slice so xs.length sc) xs.length (xs.flatMap aY) rfl ((HW.o.row.alloc _).alloc _) ⟨wo.heap.size+1,0,none⟩ 1 1 [.int .u8 107,.string (s.extract p (q)),.int .i64 p] rfl rfl (jq wo _ _ _ _ _) (sS rfl rfl rfl) (by omega) b1 b2 (nw dH _ _) ?_)
         intro g' cap' w4 hown aB aJ
         have vt:=aa (HW.o.step hown rfl (aA (aA aB)) (by first|(simp [aY,bu,jH.o];done)|simp [aY,bu,jH.o,vu.o,show p+1+1-p=2 by omega]) r_.o (by omega))
         clear hown aB aJ hi hz0 hz1 hz2;go_wp2
         go_roundw
         case rel=>exact⟨_,_,by omega,by go_num,vt⟩
         case measure=>simp [intOf];omega
  ·have D5:=aa hb
   have oP:((s[p].toNat:Int)==32)=true\/((s[p].toNat:Int)==32)=false/\((s[p].toNat:Int)==10)=true:=by
    unfold bm at hb
    rcases h:((s[p].toNat:Int)==32)with _|_
    ·rw [h]at hb;exact Or.inr ⟨rfl,by simpa using hb⟩
    ·exact Or.inl rfl
   clear hb
   rcases oP with b1|⟨b1,b2⟩
   all_goals
    go_wp2
    go_roundw
    case rel=>exact⟨p+1,xs,by omega,by go_num,aa ⟨HW.o.dB.alloc HW.o.dB.size _,HW.o.row.alloc _,by rw [HW.o.eq,jH.o,Fj D5.o],by have:=HW.o.ku;omega⟩⟩
    case measure=>simp [intOf];omega
 have hpi:¬(p:Int)<(s.size:Int):=by omega
 obtain⟨so,sc,pM⟩:=ak HW.o.row;subst pM;have hfw:=HW.o.ku;have dH:=HW.o.dB.size
 have b1:xs.length+1<=maxLen:=by unfold maxLen;omega
 have b2:(xs.length+1)*32<=140737488355328:=by omega
 go_upto_region 27 with fail
 obtain⟨i0,hi,hz0,hz1,hz2⟩:=info_parts di
 go_wp2_with (at_builtin;refine bC _ rfl _ _ 245 rfl w.heap.size 361 i0 (.agg #[.int .u8 0,.string ⟨#[]⟩,.int .i64 0]) 3 32 underlying245 hi hz0 hz1 hz2 rfl (by decide) (.slice so xs.length sc) xs.length (xs.flatMap aY) rfl (HW.o.row.alloc _) ⟨wr.heap.size,0,none⟩ 1 1 [.int .u8 101,.string ⟨#[]⟩,.int .i64 s.size] rfl rfl (Pd wr _ _ _ _) (sS rfl rfl rfl) (by omega) b1 b2 (Pe dH _) ?_)
 intro g' cap' w4 hown aB aJ;have HD:=aa (HW.o.done hown rfl (aA aB) (by simp [aY];omega) (by rw [KQ.o];omega) (by omega));clear hown aB aJ hi hz0 hz1 hz2;go_wp2;go_ret;obtain⟨q1,q2,q3,q4⟩:=HD.o;exact⟨g',cap',by rw [q1];rfl,q2,q3,q4⟩
end Go.Proofs.YtpmmjkiclngpmaaGreatDoor
