/- YtpmmjkiclngpmaaGreatDoorB16 -/
import Derived.Test.YtpmmjkiclngpmaaGreatDoorB15
set_option maxRecDepth 100000
set_option linter.unusedSimpArgs false
set_option linter.unusedVariables false
set_option maxHeartbeats 12800000
namespace Go.Proofs.YtpmmjkiclngpmaaGreatDoor
open Tryz
open Go.RowKit
variable{w1 w w0:World}{s:CS}{cb lo:Nat}{C:CK}{B:Cb}{T:Nat->Prop}
theorem land_eq(s:CS)(j:Nat)(hj:j<s.aK.length):({s with aK:=s.aK.set j (s.aK[j].1,(s.aK.length:Int))}:CS)=s.land j:=by
 simp [CS.land,List.getD,List.getElem?_eq_getElem hj]
theorem oW{S:Nat->Prop}{fnd:wY}{known:List UInt8->Prop}{k:Nat}(ih:wZ B w0 S C fnd known cb k){x:Ex}{g o:Nat}(kh:lV known (k+1) x)(hat:pV k S w0 g o x)(hg:g<B.lo)(h:cM B cb C w1 s w)(Mv:kU B w0 w1)(hf:Fit s (sz (k+1) x)):
  Calls prog 179 #[.pointer (some ⟨cb,0,none⟩),.pointer (some ⟨g,o,none⟩)] w λe' w'=>e'=.returned (.tuple #[])/\cM B cb C w1 (gen fnd (k+1) x s) w':=by
 obtain⟨hb,sv,kv,lv,hc⟩:=h;refine(ih x g o s sv kv lv w kh hat hg hc (Mv.trans hb) hf).mono ?_;rintro e' w' ⟨rfl,hwr⟩;exact⟨rfl,cM.trans hb hwr⟩
theorem iK(h:cM B cb C w1 s w)(op:Nat)(v:Int)(hl:s.aK.length<=1000000):
  Calls prog 180 #[.pointer (some ⟨cb,0,none⟩),.int .i64 op,.int .i64 v] w λe w'=>e=.returned (.int .i64 s.aK.length)/\cM B cb C w1 (s.emit op v) w':=by
 obtain⟨hb,sv,kv,lv,hc⟩:=h;refine(Nj B cb C s sv kv lv w hc op v hl).mono ?_;rintro e' w' ⟨rfl,hwr⟩;exact⟨rfl,cM.trans hb hwr⟩
theorem Ny(h:cM B cb C w1 s w)(j:Nat)(hj:j<s.aK.length)(hl:s.aK.length<=1000000):
  Calls prog 260 #[.pointer (some ⟨cb,0,none⟩),.int .i64 j] w λe w'=>e=.returned (.tuple #[])/\cM B cb C w1 (s.land j) w':=by
 obtain⟨hb,sv,kv,lv,hc⟩:=h;refine(Nk B cb C s sv kv lv w hc j hj hl).mono ?_;rintro e' w' ⟨rfl,hwr⟩;rw [land_eq s j hj]at hwr;exact⟨rfl,cM.trans hb hwr⟩
theorem R3(h:cM B cb C w1 s w)(ag:List UInt8)(hl:s.az.length<=1000000)(hs:s.aee<=1000000):
  Calls prog 178 #[.pointer (some ⟨cb,0,none⟩),.string ⟨ag.toArray⟩] w λe w'=>e=.returned (.int .i64 s.az.length)/\cM B cb C w1 (s.enter ag) w':=by
 obtain⟨hb,sv,kv,lv,hc⟩:=h;refine(AZ B cb C s sv kv lv w hc ag hl hs).mono ?_;rintro e' w' ⟨rfl,hwr⟩;exact⟨rfl,cM.trans hb hwr⟩
theorem cM.cell(h:cM B cb C w1 s w)(hw:kU B w0 w1){b:Nat}(hb:b<B.lo)(o:Nat):w.cell? ⟨b,o,none⟩=w0.cell? ⟨b,o,none⟩:=aC (hw.trans h.1).dB hb o
theorem cM.size(h:cM B cb C w1 s w):B.lo<=w.heap.size:=by
 obtain⟨_,sv,kv,lv,hc⟩:=h;have:=hc.lt;have:=hc.low;omega
theorem Eg(B:Cb)(w0:World)(S:Nat->Prop)(hS:∀k,S k->k<B.lo)(C:CK)(fnd:wY)(known:List UInt8->Prop)(cb m:Nat)(ih:∀k,m=k+1->wZ B w0 S C fnd known cb k)(e:Ex)(b o:Nat)(s:CS)(w1 w:World)(pa pb pc:Ex)(hp:e.aw= [pa,pb,pc])(kh:∀x∈e.aw,lV known m x)(hat:pV m S w0 b o e)(hb:b<B.lo)(h:cM B cb C w1 s w)(hw:kU B w0 w1)(mM:Fit s (1+gD (sz m) e.aw)):
  Calls prog 220 #[.pointer (some ⟨cb,0,none⟩),.pointer (some ⟨b,o,none⟩)] w λe' w'=>e'=.returned (.tuple #[])/\cM B cb C w1 (CS.ifs (gen fnd m) pa pb pc s) w':=by
 obtain⟨pv,a0,a2,a3,a4,ap⟩:=hat;obtain⟨k,g,cap,fO,rfl,qU,eP,vW,hch⟩:=ap.at (by rw [hp];simp);have mi:=hS g qU;subst fO;have HI:=aa (ih k rfl);rw [hp]at a4 kh mM;have HA:=aa (show w0.cell? ⟨b,o+4,none⟩=some (.slice (some ⟨g,0,none⟩) 3 cap)from a4);have A7:=aa (show pV k S w0 g 0 pa by have:=hch 0 (by rw [hp];simp);simpa [hp]using this);have GJ:=aa (show pV k S w0 g 5 pb by have:=hch 1 (by rw [hp];simp);simpa [hp]using this);have HCc:=aa (show pV k S w0 g 10 pc by have:=hch 2 (by rw [hp];simp);simpa [hp]using this);have Jb:=aa (kh pa (by simp));have Nz:=aa (kh pb (by simp));have Bg:=aa (kh pc (by simp));have HB:=aa hw;have HW:=aa h;have ga:=gH fnd (k+1) pa s;have gb:=gH fnd (k+1) pb ((gen fnd (k+1) pa s).emit 4 0);have gc:=gH fnd (k+1) pc ((((gen fnd (k+1) pb ((gen fnd (k+1) pa s).emit 4 0))).emit 3 0).land (gen fnd (k+1) pa s).aK.length);simp only [gD,List.foldr_cons,List.foldr_nil]at mM;clear hch kh a0 a2 a3 a4 ap ih hw h hp vW eP;unfold CS.ifs;generalize hs1:gen fnd (k+1) pa s=s1 at*;generalize hs3:gen fnd (k+1) pb (s1.emit 4 0)=s3 at*;generalize pK:gen fnd (k+1) pc ((s3.emit 3 0).land s1.aK.length)=s6 at*;have Gl:=aa hs1;have Ki:=aa hs3;have HE6:=aa pK;have F1:=aa (mM.mono (m:=sz (k+1) pa) (by omega))
 have e1:(s1.emit 4 0).aK.length=s1.aK.length+1:=by simp [CS.emit]
 have e3:(s3.emit 3 0).aK.length=s3.aK.length+1:=by simp [CS.emit]
 have e5:((s3.emit 3 0).land s1.aK.length).aK.length=s3.aK.length+1:=by simp [CS.land,CS.emit]
 obtain⟨ga1,Q8,ga3,ga4,ga5⟩:=ga;obtain⟨YH,Vj,XQ,YI,YJ⟩:=gb;obtain⟨gc1,gc2,gc3,gc4,gc5⟩:=gc;obtain⟨fa,fb,fc,fd,fe⟩:=mM;rw [e1]at YH;rw [e5]at gc1;simp only [CS.emit,CS.land]at Vj XQ YI YJ gc2 gc3 gc4 gc5;have F3:=aa (show Fit (s1.emit 4 0) (sz (k+1) pb)from⟨by rw [e1];omega,by simp only [CS.emit];rw [Q8];omega,by simp only [CS.emit];omega,by simp only [CS.emit];omega,by simp only [CS.emit];omega⟩);have F6:=aa (show Fit ((s3.emit 3 0).land s1.aK.length) (sz (k+1) pc)from⟨by rw [e5];omega,by simp only [CS.emit,CS.land];rw [Vj,Q8];omega,by simp only [CS.emit,CS.land];rw [Q8]at XQ;omega,by simp only [CS.emit,CS.land];omega,by simp only [CS.emit,CS.land];omega⟩)
 have l1:s1.aK.length<=1000000:=by omega
 have l3:s3.aK.length<=1000000:=by omega
 have l4:s1.aK.length<(s3.emit 3 0).aK.length:=by omega
 have l4':(s3.emit 3 0).aK.length<=1000000:=by omega
 have l6:s3.aK.length<s6.aK.length:=by omega
 have l6':s6.aK.length<=1000000:=by omega
 clear hs1 hs3 pK ga1 Q8 ga3 ga4 ga5 YH Vj XQ YI YJ gc1 gc2 gc3 gc4 gc5 fa fb fc fd fe e1 e3 e5;have c0:=(HW.o.cell HB.o hb (o+4)).trans HA.o;have z0:=HW.o.size
 have y0:b<w.heap.size:=by omega
 have x0:g<w.heap.size:=by omega
 go_enter func220,ntmps220
 go_wp2_with fail
 refine(oW HI.o Jb.o A7.o mi HW.o HB.o F1.o).mono ?_;rintro e' w2 ⟨rfl,hw2⟩;rw [Gl.o]at hw2;have th:=aa hw2;clear hw2 c0
 go_wp2_with fail
 refine(iK th.o 4 0 l1).mono ?_;rintro e' w3 ⟨rfl,hw3⟩;have lW:=aa hw3;have c3:=(hw3.cell HB.o hb (o+4)).trans HA.o;have z3:=hw3.size
 have y3:b<w3.heap.size:=by omega
 have x3:g<w3.heap.size:=by omega
 clear hw3
 go_wp2_with fail
 refine(oW HI.o Nz.o GJ.o mi lW.o HB.o F3.o).mono ?_;rintro e' w4 ⟨rfl,hw4⟩;rw [Ki.o]at hw4;have A8:=aa hw4;clear hw4 c3
 go_wp2_with fail
 refine(iK A8.o 3 0 l3).mono ?_;rintro e' w5 ⟨rfl,Q9⟩;have Jc:=aa Q9;clear Q9
 go_wp2_with fail
 refine(Ny Jc.o s1.aK.length l4 l4').mono ?_;rintro e' w6 ⟨rfl,QA⟩;have N0:=aa QA;have c6:=(QA.cell HB.o hb (o+4)).trans HA.o;have z6:=QA.size
 have y6:b<w6.heap.size:=by omega
 have x6:g<w6.heap.size:=by omega
 clear QA
 go_wp2_with fail
 refine(oW HI.o Bg.o HCc.o mi N0.o HB.o F6.o).mono ?_;rintro e' w7 ⟨rfl,hw7⟩;rw [HE6.o]at hw7;have XR:=aa hw7;clear hw7 c6
 go_wp2_with fail
 refine(Ny XR.o s3.aK.length l6 l6').mono ?_;rintro e' w8 ⟨rfl,hw8⟩;have Vk:=aa hw8;clear hw8;go_wp2
 go_end0
 exact⟨rfl,Vk.o⟩
theorem C4(B:Cb)(w0:World)(S:Nat->Prop)(hS:∀k,S k->k<B.lo)(C:CK)(fnd:wY)(known:List UInt8->Prop)(cb m:Nat)(ih:∀k,m=k+1->wZ B w0 S C fnd known cb k)(e:Ex)(b o:Nat)(s:CS)(w1 w:World)(pa pb:Ex)(hp:e.aw= [pa,pb])(kh:∀x∈e.aw,lV known m x)(hat:pV m S w0 b o e)(hb:b<B.lo)(h:cM B cb C w1 s w)(hw:kU B w0 w1)(mM:Fit s (1+gD (sz m) e.aw)):
  Calls prog 221 #[.pointer (some ⟨cb,0,none⟩),.pointer (some ⟨b,o,none⟩)] w λe' w'=>e'=.returned (.tuple #[])/\cM B cb C w1 (CS.lets (gen fnd m) e.ag pa pb s) w':=by
 obtain⟨pv,a0,a2,a3,a4,ap⟩:=hat;obtain⟨k,g,cap,fO,rfl,qU,eP,vW,hch⟩:=ap.at (by rw [hp];simp);have mi:=hS g qU;subst fO;have HI:=aa (ih k rfl);rw [hp]at a4 kh mM;have HA:=aa (show w0.cell? ⟨b,o+4,none⟩=some (.slice (some ⟨g,0,none⟩) 2 cap)from a4);have HN:=aa a2;have A7:=aa (show pV k S w0 g 0 pa by have:=hch 0 (by rw [hp];simp);simpa [hp]using this);have GJ:=aa (show pV k S w0 g 5 pb by have:=hch 1 (by rw [hp];simp);simpa [hp]using this);have Jb:=aa (kh pa (by simp));have Nz:=aa (kh pb (by simp));have HB:=aa hw;have HW:=aa h;have ga:=gH fnd (k+1) pa s;have gb:=gH fnd (k+1) pb (((gen fnd (k+1) pa s).enter e.ag).emit 2 (gen fnd (k+1) pa s).az.length);simp only [gD,List.foldr_cons,List.foldr_nil]at mM;clear hch kh a0 a2 a3 a4 ap ih hw h hp vW eP;unfold CS.lets;generalize hs1:gen fnd (k+1) pa s=s1 at*;generalize hs3:gen fnd (k+1) pb ((s1.enter e.ag).emit 2 s1.az.length)=s3 at*;have Gl:=aa hs1;have Ki:=aa hs3;have F1:=aa (mM.mono (m:=sz (k+1) pa) (by omega))
 have e1:((s1.enter e.ag).emit 2 s1.az.length).aK.length=s1.aK.length+1:=by simp [CS.emit,CS.enter]
 obtain⟨ga1,Q8,ga3,ga4,ga5⟩:=ga;obtain⟨YH,Vj,XQ,YI,YJ⟩:=gb;obtain⟨fa,fb,fc,fd,fe⟩:=mM;rw [e1]at YH;simp only [CS.emit,CS.enter,List.length_append,List.length_cons,List.length_nil]at Vj XQ YI YJ;have F3:=aa (show Fit ((s1.enter e.ag).emit 2 s1.az.length) (sz (k+1) pb)from⟨by rw [e1];omega,by simp only [CS.emit,CS.enter,List.length_append,List.length_cons,List.length_nil];rw [Q8];omega,by simp only [CS.emit,CS.enter];rw [Q8];omega,by simp only [CS.emit,CS.enter];omega,by simp only [CS.emit,CS.enter];omega⟩)
 have l1:(s1.enter e.ag).aK.length<=1000000:=by simp only [CS.enter];omega
 have l2:s1.az.length<=1000000:=by rw [Q8];omega
 have l3:s1.aee<=1000000:=by omega
 have ls:s.az.length<=1000000:=by omega
 have Bg:=aa (show s3.az=s.az++ [e.ag] by rw [Vj,Q8]);clear hs1 hs3 ga1 Q8 ga3 ga4 ga5 YH Vj XQ YI YJ fa fb fc fd fe e1;obtain⟨qC,sv0,kv0,XS,GK⟩:=HW.o;obtain⟨so,sc,rfl⟩:=ak GK.oV;obtain⟨_,f1,_,_,_⟩:=GK.field;have fl:=GK.lt;clear qC GK;have c0:=(HW.o.cell HB.o hb (o+4)).trans HA.o;have z0:=HW.o.size
 have y0:b<w.heap.size:=by omega
 have x0:g<w.heap.size:=by omega
 go_enter func221,ntmps221
 go_wp2_with fail
 refine(oW HI.o Jb.o A7.o mi HW.o HB.o F1.o).mono ?_;rintro e' w2 ⟨rfl,hw2⟩;rw [Gl.o]at hw2;have th:=aa hw2;have n2:=(hw2.cell HB.o hb (o+2)).trans HN.o;have z2:=hw2.size
 have y2:b<w2.heap.size:=by omega
 clear hw2 c0 f1
 go_wp2_with fail
 refine(R3 th.o e.ag l2 l3).mono ?_;rintro e' w3 ⟨rfl,hw3⟩;have lW:=aa hw3;clear hw3 n2
 go_wp2_with fail
 refine(iK lW.o 2 _ l1).mono ?_;rintro e' w4 ⟨rfl,hw4⟩;have A8:=aa hw4;have c4:=(hw4.cell HB.o hb (o+4)).trans HA.o;have z4:=hw4.size
 have y4:b<w4.heap.size:=by omega
 have x4:g<w4.heap.size:=by omega
 clear hw4
 go_wp2_with fail
 refine(oW HI.o Nz.o GJ.o mi A8.o HB.o F3.o).mono ?_;rintro e' w5 ⟨rfl,Q9⟩;rw [Ki.o]at Q9;obtain⟨cZ,sv5,kv5,lv5,iO⟩:=Q9
 have Mw:s3.az.length=s.az.length+1:=by rw [Bg.o];simp
 obtain⟨d,dc,aU,rfl,GL,N1,hd3,hd4,hd5,hd6⟩:=cN iO.oV (by omega);obtain⟨f0,f1,f7,f8,f9⟩:=iO.field;have g0:=aj iO.blk;have h1:=iO.lt;have N2:=af N1;have gT:=aa cZ
 have HP:=aa (iO.mL (tK w5 _) (.slice (some ⟨d,0,none⟩) s.az.length dc) (s3.az.take s.az.length) (by
  have:=D_ iO.oV s.az.length (by omega)
  have hl:(s3.az.take s.az.length).length=s.az.length:=by rw [List.length_take];omega
  rw [hl]
  simpa [strCells,List.map_take]using this) (λk e=>Or.inl e))
 have hdc:s.az.length<=dc:=by omega
 clear cZ iO N1 hd5 hd6 c4;go_wp2
 go_end0
 exact⟨rfl,cM.mk ⟨gT.o.trans HP.o.1,HP.o.2⟩⟩
theorem Kv(B:Cb)(w0:World)(S:Nat->Prop)(hS:∀k,S k->k<B.lo)(C:CK)(fnd:wY)(known:List UInt8->Prop)(lJ:Bf B w0 C fnd known)(vb:Nat)(hc0:C.c0=.pointer (some ⟨vb,0,none⟩))(cb m:Nat)(ih:∀k,m=k+1->wZ B w0 S C fnd known cb k)(e:Ex)(b o:Nat)(s:CS)(w1 w:World)(hkn:known e.ag)(kh:∀x∈e.aw,lV known m x)(hat:pV m S w0 b o e)(hb:b<B.lo)(h:cM B cb C w1 s w)(hw:kU B w0 w1)(mM:Fit s (1+gD (sz m) e.aw)):
  Calls prog 222 #[.pointer (some ⟨cb,0,none⟩),.pointer (some ⟨b,o,none⟩)] w λe' w'=>e'=.returned (.tuple #[])/\cM B cb C w1 (((gG (gen fnd m) e.aw s).pS (fnd.use e.ag)).ia (fnd.sym e.ag)) w':=by
 have Eh:=hat;obtain⟨pv,a0,a2,a3,a4,ap⟩:=hat;have gp:=mD (g:=gen fnd m) (sz:=sz m) e.aw (λx _ s=>gH fnd m x s) s;have hpl:=xX (sz m) e.aw (λx _=>C2 m x);have HI:=aa ih;have HN:=aa a2;have ox:=aa Eh;have lI:=aa kh;have HB:=aa hw;have HW:=aa h;have HF:=aa lJ;have HK:=aa hkn;obtain⟨fa,fb,fc,fd,fe⟩:=mM;have F1:=aa (show Fit s (gD (sz m) e.aw)from⟨by omega,by omega,fc,by omega,by omega⟩)
 have hl0:e.aw.length<=1000000:=by omega
 generalize hs1:gG (gen fnd m) e.aw s=s1 at*;have HE:=aa hs1;obtain⟨gp1,gp2,gp3,gp4,gp5⟩:=gp
 have abn:s1.lk.length<=8000000000:=by omega
 have l1:s1.aK.length<=1000000:=by omega
 have l2:s1.bq.length+1<=1000000:=by omega
 obtain⟨i0,hi,hz0,hz1,hz2⟩:=info_parts Ni;clear hs1 gp1 gp2 gp3 gp4 gp5 fa fb fc fd fe ih a0 a2 a3 a4 ap Eh kh hw h lJ hkn hpl;obtain⟨qC,sv0,kv0,XS,GK⟩:=HW.o;have HCd:=aa GK;have R4:=aa qC;clear qC GK
 go_enter func222,ntmps222
 go_wp2_with fail
 refine(ix B w0 S hS C fnd known cb m HI.o e b o s sv0 kv0 XS _ lI.o ox.o hb HCd.o (HB.o.trans R4.o) F1.o hl0).mono ?_;rintro e' w2 ⟨rfl,hw2⟩;rw [HE.o]at hw2;have R5:=cM.trans R4.o hw2;have th:=aa R5;have n2:=(R5.cell HB.o hb (o+2)).trans HN.o;have z2:=R5.size
 have y2:b<w2.heap.size:=by omega
 obtain⟨hb2,sv2,kv2,lv2,hc2⟩:=R5;obtain⟨f0,f1,f7,f8,f9⟩:=hc2.field;rw [hc0]at f0;have h2l:=hc2.lt;have kW:=aa hc2;have cU:=aa hb2;clear hw2 hb2 hc2
 go_wp2_with fail
 obtain⟨TC,hu2,N1⟩:=kW.o.vw;have Jd:=aa hu2;have R6:=aa N1;clear hu2 N1
 go_cut [4] (λs4 wx=>s4=.string ⟨(fnd.sym e.ag).1.toArray⟩/\Hy ((fnd.sym e.ag).2=e.ag)/\Hy (cM B cb C w1 (s1.pS (fnd.use e.ag)) wx))
 case first=>
  go_region_with (go_at_call 261;go_must (refine(Calls.mono (by rw [<-hc0];exact HF.o e.ag s1.lk TC _ HK.o (by exact(HB.o.trans cU.o).drew) (by exact Jd.o.drew) abn) ?_);rintro e' w3 ⟨⟨ap,rfl⟩,hn3,GM,TD,TE⟩;have Dx:=aa (fQ.T6 TD);have N3:=aa TE;have HN3:=aa hn3;clear TD TE hn3))
  all_goals
   (try go_wp2_with fail)
   go_meet
   exact⟨rfl,HN3.o,cM.mk ⟨cU.o.trans (kW.o.found Jd.o R6.o Dx.o N3.o).1,(kW.o.found Jd.o R6.o Dx.o N3.o).2⟩⟩
 obtain⟨rfl,HN3,HWq⟩:=hcut;have l1q:(s1.pS (fnd.use e.ag)).aK.length<=1000000:=l1;have l2q:(s1.pS (fnd.use e.ag)).bq.length+1<=1000000:=l2;generalize cR:s1.pS (fnd.use e.ag)=sq at*;have HSq:=aa cR;clear cR;obtain⟨dN,svq,kvq,lvq,YK⟩:=HWq.o;have jl:=aa YK;have HBc:=aa dN;have n3:=(HWq.o.cell HB.o hb (o+2)).trans HN.o;have zq:=HWq.o.size
 have yq:b<wc.heap.size:=by omega
 clear dN YK f0 f1 f7 f8 f9 h2l n2 y2 Jd R6;obtain⟨so,sc,rfl⟩:=ak jl.o.tM;obtain⟨f0,f1,f7,f8,f9⟩:=jl.o.field;have g0:=aj jl.o.blk;have h1:=jl.o.lt;have h2:=jl.o.low
 have hBc:B.lo<=wc.heap.size:=by omega
 have b1:sq.bq.length+1<=maxLen:=by unfold maxLen;omega
 have b2:(sq.bq.length+1)*32<=140737488355328:=by omega
 go_wp2_with fail
 have qV:∀u∈ [Value.string ⟨(fnd.sym e.ag).1.toArray⟩,Value.string ⟨e.ag.toArray⟩],u.oneCell'=true:=by
  intro u hu
  rcases List.mem_cons.1 hu with rfl|hu
  ·rfl
  ·rcases List.mem_cons.1 hu with rfl|hu
   ·rfl
   ·cases hu
 have kp:=aa qV;clear qV
 have TF:B.lo<=(wc.drew.alloc (.cells #[.string ⟨(fnd.sym e.ag).1.toArray⟩,.string ⟨e.ag.toArray⟩] 87)).heap.size:=by simp;omega
 have pZ:=aa TF;clear TF
 go_cut [] (λwx=>Hy (cM B cb C w1 {sq with bq:=sq.bq++ [fnd.sym e.ag]} wx))
 case first=>
  go_region_law (refine cv rfl (.tmp 26) (.tmp 33) 90 rfl B.lo 87 i0 (.agg #[.string ⟨#[]⟩,.string ⟨#[]⟩]) 2 32 underlying90 hi hz0 hz1 hz2 rfl (by decide) (.slice so sq.bq.length sc) sq.bq.length (fR sq.bq) ?_ ?_ ⟨wc.heap.size,0,none⟩ 1 1 [.string ⟨(fnd.sym e.ag).1.toArray⟩,.string ⟨e.ag.toArray⟩] ?_ rfl ?_ kp.o b1 b2 ?_ ?_;(simp [Act.eval,Act.put]);(exact(jl.o.drew.alloc _).tM);(simp [Act.eval,Act.put]);(exact(pT wc.drew _ _ _));(exact pZ.o);intro v' w4 hown aB aJ;obtain⟨vo,vc,rfl⟩:=ak hown;have HG:=aa (dS (aA aB));have HO:=aa hown;have Bh:=aa aJ;have fO:=(HG.o.block cb h1 (λe=>jl.o.n3 e.symm)).trans jl.o.blk;have k9:=ae fO 9;have kf:=aj fO;have kl:=af fO;simp at k9;clear hown aB aJ fO)
  all_goals
   have HQ:=aa (jl.o.Ng HG.o (.slice vo (sq.bq.length+1) vc) (sq.bq++ [fnd.sym e.ag]) (by rw [A6,List.length_append,HN3.o];exact HO.o) (λq e=>(Bh.o q e).imp id (λh=>by have h':wc.heap.size+1<=q:=(by simpa using h);omega)))
   (try go_wp2_with fail)
   go_meet
   exact cM.mk ⟨HBc.o.trans HQ.o.1,HQ.o.2⟩
 have Vl:=hcut;obtain⟨cZ,sv5,kv5,lv5,iO⟩:=Vl.o;obtain⟨qo,qc,rfl⟩:=ak iO.tM;obtain⟨v0,v1,v7,v8,v9⟩:=iO.field
 have v9':wc.cell? ⟨cb,9,none⟩=some (.slice qo (sq.bq.length+1) qc):=by rw [v9];simp
 have XM:=iO.lt;clear v0 v1 v7 v8 v9 cZ iO f0 f1 f7 f8 f9 g0
 go_wp2_with fail
 refine(iK Vl.o 5 _ (by exact l1q)).mono ?_;rintro e' w6 ⟨rfl,QA⟩;have N0:=aa QA;clear QA;go_wp2
 go_end0
 exact⟨rfl,by rw [HSq.o];exact N0.o⟩
theorem Bi(B:Cb)(w0:World)(S:Nat->Prop)(hS:∀k,S k->k<B.lo)(C:CK)(fnd:wY)(known:List UInt8->Prop)(lJ:Bf B w0 C fnd known)(vb:Nat)(hc0:C.c0=.pointer (some ⟨vb,0,none⟩))(cb m:Nat)(ih:∀k,m=k+1->wZ B w0 S C fnd known cb k):wZ B w0 S C fnd known cb m:=by
 intro e b o s sv kv lv w kh hat hb h hw mM;have Eh:=hat;obtain⟨pv,a0,a2,a3,a4,ap⟩:=hat;obtain⟨abo,hk4,YL,QB,hk3,N4⟩:=kh;have hsz:sz (m+1) e=1+gD (sz m) e.aw:=rfl;rw [hsz]at mM;have hpl:=xX (sz m) e.aw (λx _=>C2 m x);have gp:=mD (g:=gen fnd m) (sz:=sz m) e.aw (λx _ s=>gH fnd m x s) s;have c0:=(aC hw.dB hb o).trans a0;have c2:=(aC hw.dB hb (o+2)).trans a2;have c3:=(aC hw.dB hb (o+3)).trans a3;have c4:=(aC hw.dB hb (o+4)).trans a4;have hlt:=h.lt;have nK:=h.low
 have hbl:b<w.heap.size:=by omega
 obtain⟨fa,fb,fc,fd,fe⟩:=mM
 have hl0:e.aw.length<=1000000:=by omega
 have l0:s.aK.length<=1000000:=by omega
 have l1:(gG (gen fnd m) e.aw s).aK.length<=1000000:=by have:=gp.aK;omega
 have ls:s.az.length<=1000000:=by omega
 have FP:=aa (show Fit s (gD (sz m) e.aw)from⟨by omega,by omega,fc,by omega,by omega⟩);have FF:=aa (show Fit s (1+gD (sz m) e.aw)from⟨fa,fb,fc,fd,fe⟩);have Ja:=aa (cM.mk (⟨kU.refl B w,h⟩:kU B w w/\Cd B cb C s sv kv lv w));have HM:=aa h;have HI:=aa ih;have ox:=aa Eh;have Ei:=aa a0;have lI:=aa N4;have HW:=aa hw;have HS:=aa hS;have HF:=aa lJ;have HP:=aa ap;have iy:=aa hk3;clear ih Eh a0 a2 a3 a4 hw h hS lJ gp fa fb fc fd fe hpl hsz ap N4 hk3
 have hx:(e.aL=0\/e.aL=1)\/e.aL=2\/e.aL=3\/e.aL=4\/e.aL=5\/e.aL=6\/e.aL=7\/e.aL=8\/e.aL=9\/e.aL=10\/e.aL=11\/e.aL=12\/e.aL=13\/e.aL=14:=by omega
 rcases hx with hk|hk|hk|hk|hk|hk|hk|hk|hk|hk|hk|hk|hk|hk
 ·have HG:=aa (show gen fnd (m+1) e s=s.emit 0 e.value by simp [gen,hk])
  rcases hk with hk|hk
  ·have gZ:w.cell? ⟨b,o,none⟩=some (.int .i64 0):=by rw [c0,hk];rfl
   clear c0
   go_enter func179,ntmps179
   go_wp2_with fail
   refine(iK Ja.o 0 e.value l0).mono ?_;rintro e' w3 ⟨rfl,hw3⟩;have lW:=aa hw3;clear hw3;go_wp2
   go_end0
   exact⟨rfl,by rw [HG.o];exact lW.o⟩
  ·have gZ:w.cell? ⟨b,o,none⟩=some (.int .i64 1):=by rw [c0,hk];rfl
   clear c0
   go_enter func179,ntmps179
   go_wp2_with fail
   refine(iK Ja.o 0 e.value l0).mono ?_;rintro e' w3 ⟨rfl,hw3⟩;have lW:=aa hw3;clear hw3;go_wp2
   go_end0
   exact⟨rfl,by rw [HG.o];exact lW.o⟩
 ·have HG:=aa (show gen fnd (m+1) e s=s.emit 1 (yD s.az e.ag) by simp [gen,hk])
  have gZ:w.cell? ⟨b,o,none⟩=some (.int .i64 2):=by rw [c0,hk];rfl
  clear c0
  go_enter func179,ntmps179
  go_wp2_with fail
  refine(Nl B cb C s sv kv lv _ HM.o e.ag ls).mono ?_;rintro e' w2 ⟨rfl,rfl⟩
  go_wp2_with fail
  refine(iK Ja.o 1 _ l0).mono ?_;rintro e' w3 ⟨rfl,hw3⟩;have lW:=aa hw3;clear hw3;go_wp2
  go_end0
  exact⟨rfl,by rw [HG.o];exact lW.o⟩
 ·have HG:=aa (show gen fnd (m+1) e s=((gG (gen fnd m) e.aw s).pS (fnd.use e.ag)).ia (fnd.sym e.ag) by simp [gen,hk])
  have gZ:w.cell? ⟨b,o,none⟩=some (.int .i64 3):=by rw [c0,hk];rfl
  clear c0
  go_enter func179,ntmps179
  go_wp2_with fail
  refine(Kv B w0 S HS.o C fnd known HF.o vb hc0 cb m HI.o e b o s w _ (iy.o hk) lI.o ox.o hb Ja.o HW.o FF.o).mono ?_;rintro e' w3 ⟨rfl,hw3⟩;have lW:=aa hw3;clear hw3;go_wp2
  go_end0
  exact⟨rfl,by rw [HG.o];exact lW.o⟩
 ·obtain⟨pa,cO⟩:∃pa,e.aw= [pa]:=List.length_eq_one_iff.1 (hk4 hk)
  have HG:=aa (show gen fnd (m+1) e s=gen fnd m pa s by simp [gen,hk,cO,gG])
  have gZ:w.cell? ⟨b,o,none⟩=some (.int .i64 4):=by rw [c0,hk];rfl
  clear c0;obtain⟨k,g,cap,fO,rfl,qU,eP,vW,hch⟩:=HP.o.at (by rw [cO];simp);subst fO;have mi:=HS.o g qU;have A7:=aa (show pV k S w0 g 0 pa by have:=hch 0 (by rw [cO];simp);simpa [cO]using this);have Jb:=aa (lI.o pa (by simp [cO]));have F1:=aa (FF.o.mono (m:=sz (k+1) pa) (by rw [cO];simp only [gD,List.foldr_cons,List.foldr_nil];omega))
  have R7:g<w.heap.size:=by omega
  rw [cO]at c4;have c4':w.cell? ⟨b,o+4,none⟩=some (.slice (some ⟨g,0,none⟩) 1 cap):=c4;clear c4 hch cO vW
  go_enter func179,ntmps179
  go_wp2_with fail
  refine(oW (HI.o k rfl) Jb.o A7.o mi Ja.o HW.o F1.o).mono ?_;rintro e' w3 ⟨rfl,hw3⟩;have lW:=aa hw3;clear hw3;go_wp2
  go_end0
  exact⟨rfl,by rw [HG.o];exact lW.o⟩
 ·obtain⟨pa,pb,pc,cO⟩:∃pa pb pc,e.aw= [pa,pb,pc]:=Nx (YL hk)
  have HG:=aa (show gen fnd (m+1) e s=CS.ifs (gen fnd m) pa pb pc s by simp [gen,hk,cO])
  have gZ:w.cell? ⟨b,o,none⟩=some (.int .i64 5):=by rw [c0,hk];rfl
  have N5:=aa cO;clear c0 cO
  go_enter func179,ntmps179
  go_wp2_with fail
  refine(Eg B w0 S HS.o C fnd known cb m HI.o e b o s w _ pa pb pc N5.o lI.o ox.o hb Ja.o HW.o FF.o).mono ?_;rintro e' w3 ⟨rfl,hw3⟩;have lW:=aa hw3;clear hw3;go_wp2
  go_end0
  exact⟨rfl,by rw [HG.o];exact lW.o⟩
 ·obtain⟨pa,pb,cO⟩:∃pa pb,e.aw= [pa,pb]:=Nw (QB hk)
  have HG:=aa (show gen fnd (m+1) e s=CS.lets (gen fnd m) e.ag pa pb s by simp [gen,hk,cO])
  have gZ:w.cell? ⟨b,o,none⟩=some (.int .i64 6):=by rw [c0,hk];rfl
  have N5:=aa cO;clear c0 cO
  go_enter func179,ntmps179
  go_wp2_with fail
  refine(C4 B w0 S HS.o C fnd known cb m HI.o e b o s w _ pa pb N5.o lI.o ox.o hb Ja.o HW.o FF.o).mono ?_;rintro e' w3 ⟨rfl,hw3⟩;have lW:=aa hw3;clear hw3;go_wp2
  go_end0
  exact⟨rfl,by rw [HG.o];exact lW.o⟩
 ·have HG:=aa (show gen fnd (m+1) e s=(gG (gen fnd m) e.aw s).emit (tL 7) 0 by simp [gen,hk])
  have gZ:w.cell? ⟨b,o,none⟩=some (.int .i64 7):=by rw [c0,hk];rfl
  clear c0
  go_enter func179,ntmps179
  go_wp2_with fail
  refine(ix B w0 S HS.o C fnd known cb m HI.o e b o s sv kv lv _ lI.o ox.o hb HM.o HW.o FP.o hl0).mono ?_;rintro e' w2 ⟨rfl,hw2⟩;have d0:=(hw2.cell HW.o hb o).trans ((Ei.o).trans (by rw [hk];rfl:some (Value.int .i64 e.aL)=some (Value.int .i64 7)));have z2:=hw2.size
  have y2:b<w2.heap.size:=by omega
  have th:=aa hw2;clear hw2 gZ
  go_wp2_with fail
  refine(ft 7 (by omega) _).mono ?_;rintro e' w3 ⟨rfl,rfl⟩
  go_wp2_with fail
  refine(iK th.o _ 0 l1).mono ?_;rintro e' w3 ⟨rfl,hw3⟩;have lW:=aa hw3;clear hw3;go_wp2
  go_end0
  exact⟨rfl,by rw [HG.o];exact lW.o⟩
 ·have HG:=aa (show gen fnd (m+1) e s=(gG (gen fnd m) e.aw s).emit (tL 8) 0 by simp [gen,hk])
  have gZ:w.cell? ⟨b,o,none⟩=some (.int .i64 8):=by rw [c0,hk];rfl
  clear c0
  go_enter func179,ntmps179
  go_wp2_with fail
  refine(ix B w0 S HS.o C fnd known cb m HI.o e b o s sv kv lv _ lI.o ox.o hb HM.o HW.o FP.o hl0).mono ?_;rintro e' w2 ⟨rfl,hw2⟩;have d0:=(hw2.cell HW.o hb o).trans ((Ei.o).trans (by rw [hk];rfl:some (Value.int .i64 e.aL)=some (Value.int .i64 8)));have z2:=hw2.size
  have y2:b<w2.heap.size:=by omega
  have th:=aa hw2;clear hw2 gZ
  go_wp2_with fail
  refine(ft 8 (by omega) _).mono ?_;rintro e' w3 ⟨rfl,rfl⟩
  go_wp2_with fail
  refine(iK th.o _ 0 l1).mono ?_;rintro e' w3 ⟨rfl,hw3⟩;have lW:=aa hw3;clear hw3;go_wp2
  go_end0
  exact⟨rfl,by rw [HG.o];exact lW.o⟩
 ·have HG:=aa (show gen fnd (m+1) e s=(gG (gen fnd m) e.aw s).emit (tL 9) 0 by simp [gen,hk])
  have gZ:w.cell? ⟨b,o,none⟩=some (.int .i64 9):=by rw [c0,hk];rfl
  clear c0
  go_enter func179,ntmps179
  go_wp2_with fail
  refine(ix B w0 S HS.o C fnd known cb m HI.o e b o s sv kv lv _ lI.o ox.o hb HM.o HW.o FP.o hl0).mono ?_;rintro e' w2 ⟨rfl,hw2⟩;have d0:=(hw2.cell HW.o hb o).trans ((Ei.o).trans (by rw [hk];rfl:some (Value.int .i64 e.aL)=some (Value.int .i64 9)));have z2:=hw2.size
  have y2:b<w2.heap.size:=by omega
  have th:=aa hw2;clear hw2 gZ
  go_wp2_with fail
  refine(ft 9 (by omega) _).mono ?_;rintro e' w3 ⟨rfl,rfl⟩
  go_wp2_with fail
  refine(iK th.o _ 0 l1).mono ?_;rintro e' w3 ⟨rfl,hw3⟩;have lW:=aa hw3;clear hw3;go_wp2
  go_end0
  exact⟨rfl,by rw [HG.o];exact lW.o⟩
 ·have HG:=aa (show gen fnd (m+1) e s=(gG (gen fnd m) e.aw s).emit (tL 10) 0 by simp [gen,hk])
  have gZ:w.cell? ⟨b,o,none⟩=some (.int .i64 10):=by rw [c0,hk];rfl
  clear c0
  go_enter func179,ntmps179
  go_wp2_with fail
  refine(ix B w0 S HS.o C fnd known cb m HI.o e b o s sv kv lv _ lI.o ox.o hb HM.o HW.o FP.o hl0).mono ?_;rintro e' w2 ⟨rfl,hw2⟩;have d0:=(hw2.cell HW.o hb o).trans ((Ei.o).trans (by rw [hk];rfl:some (Value.int .i64 e.aL)=some (Value.int .i64 10)));have z2:=hw2.size
  have y2:b<w2.heap.size:=by omega
  have th:=aa hw2;clear hw2 gZ
  go_wp2_with fail
  refine(ft 10 (by omega) _).mono ?_;rintro e' w3 ⟨rfl,rfl⟩
  go_wp2_with fail
  refine(iK th.o _ 0 l1).mono ?_;rintro e' w3 ⟨rfl,hw3⟩;have lW:=aa hw3;clear hw3;go_wp2
  go_end0
  exact⟨rfl,by rw [HG.o];exact lW.o⟩
 ·have HG:=aa (show gen fnd (m+1) e s=(gG (gen fnd m) e.aw s).emit (tL 11) 0 by simp [gen,hk])
  have gZ:w.cell? ⟨b,o,none⟩=some (.int .i64 11):=by rw [c0,hk];rfl
  clear c0
  go_enter func179,ntmps179
  go_wp2_with fail
  refine(ix B w0 S HS.o C fnd known cb m HI.o e b o s sv kv lv _ lI.o ox.o hb HM.o HW.o FP.o hl0).mono ?_;rintro e' w2 ⟨rfl,hw2⟩;have d0:=(hw2.cell HW.o hb o).trans ((Ei.o).trans (by rw [hk];rfl:some (Value.int .i64 e.aL)=some (Value.int .i64 11)));have z2:=hw2.size
  have y2:b<w2.heap.size:=by omega
  have th:=aa hw2;clear hw2 gZ
  go_wp2_with fail
  refine(ft 11 (by omega) _).mono ?_;rintro e' w3 ⟨rfl,rfl⟩
  go_wp2_with fail
  refine(iK th.o _ 0 l1).mono ?_;rintro e' w3 ⟨rfl,hw3⟩;have lW:=aa hw3;clear hw3;go_wp2
  go_end0
  exact⟨rfl,by rw [HG.o];exact lW.o⟩
 ·have HG:=aa (show gen fnd (m+1) e s=(gG (gen fnd m) e.aw s).emit (tL 12) 0 by simp [gen,hk])
  have gZ:w.cell? ⟨b,o,none⟩=some (.int .i64 12):=by rw [c0,hk];rfl
  clear c0
  go_enter func179,ntmps179
  go_wp2_with fail
  refine(ix B w0 S HS.o C fnd known cb m HI.o e b o s sv kv lv _ lI.o ox.o hb HM.o HW.o FP.o hl0).mono ?_;rintro e' w2 ⟨rfl,hw2⟩;have d0:=(hw2.cell HW.o hb o).trans ((Ei.o).trans (by rw [hk];rfl:some (Value.int .i64 e.aL)=some (Value.int .i64 12)));have z2:=hw2.size
  have y2:b<w2.heap.size:=by omega
  have th:=aa hw2;clear hw2 gZ
  go_wp2_with fail
  refine(ft 12 (by omega) _).mono ?_;rintro e' w3 ⟨rfl,rfl⟩
  go_wp2_with fail
  refine(iK th.o _ 0 l1).mono ?_;rintro e' w3 ⟨rfl,hw3⟩;have lW:=aa hw3;clear hw3;go_wp2
  go_end0
  exact⟨rfl,by rw [HG.o];exact lW.o⟩
 ·have HG:=aa (show gen fnd (m+1) e s=(gG (gen fnd m) e.aw s).emit (tL 13) 0 by simp [gen,hk])
  have gZ:w.cell? ⟨b,o,none⟩=some (.int .i64 13):=by rw [c0,hk];rfl
  clear c0
  go_enter func179,ntmps179
  go_wp2_with fail
  refine(ix B w0 S HS.o C fnd known cb m HI.o e b o s sv kv lv _ lI.o ox.o hb HM.o HW.o FP.o hl0).mono ?_;rintro e' w2 ⟨rfl,hw2⟩;have d0:=(hw2.cell HW.o hb o).trans ((Ei.o).trans (by rw [hk];rfl:some (Value.int .i64 e.aL)=some (Value.int .i64 13)));have z2:=hw2.size
  have y2:b<w2.heap.size:=by omega
  have th:=aa hw2;clear hw2 gZ
  go_wp2_with fail
  refine(ft 13 (by omega) _).mono ?_;rintro e' w3 ⟨rfl,rfl⟩
  go_wp2_with fail
  refine(iK th.o _ 0 l1).mono ?_;rintro e' w3 ⟨rfl,hw3⟩;have lW:=aa hw3;clear hw3;go_wp2
  go_end0
  exact⟨rfl,by rw [HG.o];exact lW.o⟩
 have HG:=aa (show gen fnd (m+1) e s=(gG (gen fnd m) e.aw s).emit (tL 14) 0 by simp [gen,hk])
 have gZ:w.cell? ⟨b,o,none⟩=some (.int .i64 14):=by rw [c0,hk];rfl
 clear c0
 go_enter func179,ntmps179
 go_wp2_with fail
 refine(ix B w0 S HS.o C fnd known cb m HI.o e b o s sv kv lv _ lI.o ox.o hb HM.o HW.o FP.o hl0).mono ?_;rintro e' w2 ⟨rfl,hw2⟩;have d0:=(hw2.cell HW.o hb o).trans ((Ei.o).trans (by rw [hk];rfl:some (Value.int .i64 e.aL)=some (Value.int .i64 14)));have z2:=hw2.size
 have y2:b<w2.heap.size:=by omega
 have th:=aa hw2;clear hw2 gZ
 go_wp2_with fail
 refine(ft 14 (by omega) _).mono ?_;rintro e' w3 ⟨rfl,rfl⟩
 go_wp2_with fail
 refine(iK th.o _ 0 l1).mono ?_;rintro e' w3 ⟨rfl,hw3⟩;have lW:=aa hw3;clear hw3;go_wp2
 go_end0
 exact⟨rfl,by rw [HG.o];exact lW.o⟩
theorem N6(B:Cb)(w0:World)(S:Nat->Prop)(hS:∀k,S k->k<B.lo)(C:CK)(fnd:wY)(known:List UInt8->Prop)(lJ:Bf B w0 C fnd known)(vb:Nat)(hc0:C.c0=.pointer (some ⟨vb,0,none⟩))(cb:Nat):∀m,wZ B w0 S C fnd known cb m:=by
 intro m
 induction m with
 |zero=>exact Bi B w0 S hS C fnd known lJ vb hc0 cb 0 (λk hk=>by omega)
 |succ m ih=>exact Bi B w0 S hS C fnd known lJ vb hc0 cb (m+1) (λk hk=>by
   have e:m=k:=(by omega)
   exact e▸ih)
theorem N7:(prog.info? 132).map (λi=>(i.zero,i.size,i.bytes))=some (some (.int .i64 0),1,8):=by kernel_rfl
def fT(l:List Nat):List Value:=l.map λ(t:Nat)=> .int .i64 (t:Int)
theorem Cd.Kw{sv kv lv:Value}{w2:World}(pv:Value)(h:Cd ⟨lo,λk=>T k\/pv.ownBlock=some k⟩ cb C s sv kv lv w)(hpt:∀k,pv.ownBlock=some k->lo<=k/\¬T k)(xH:∀k,C.V.iv.ownBlock=some k->T k)(hg:w.grownBy w2 pv.ownBlock)(g c:Nat)(l:List Nat)(ho:w2.ownsRow lo 132 1 (.slice (some ⟨g,0,none⟩) l.length c) l.length (fT l))(hw:pv.ownBlock=some g\/w.heap.size<=g):
  kU ⟨lo,T⟩ w (w2.setCell ⟨cb,5,none⟩ (.slice (some ⟨g,0,none⟩) l.length c))/\Cd ⟨lo,λk=>T k\/(Value.slice (some ⟨g,0,none⟩) l.length c).ownBlock=some k⟩ cb {C with c5:=.slice (some ⟨g,0,none⟩) l.length c} s sv kv lv (w2.setCell ⟨cb,5,none⟩ (.slice (some ⟨g,0,none⟩) l.length c))/\
   (w2.setCell ⟨cb,5,none⟩ (.slice (some ⟨g,0,none⟩) l.length c)).ownsRow lo 132 1 (.slice (some ⟨g,0,none⟩) l.length c) l.length (fT l)/\lo<=g/\¬T g:=by
 have Aj:=h.lt;have nK:=h.low;simp only at nK;have R8:=h.Dw;have lK:=h.nm;simp only at R8 lK;have eP:g<w2.heap.size:=(aG ho g rfl).2;have hsz:=hg.size
 have hgT:lo<=g/\¬T g:=by
  rcases hw with e|e
  ·exact hpt g e
  ·exact⟨by omega,λht=>by have:=R8 g (Or.inl ht);omega⟩
 have Vm:cb≠g:=by
  rcases hw with e|e
  ·intro e';exact lK (Or.inr (by rw [e,e']))
  ·omega
 have Ak:∀(k:Nat),k<w.heap.size->pv.ownBlock≠some k->w2.heap[k]?=w.heap[k]?:=λk hk e=>hg.block k hk (λe'=>e e'.symm)
 have old:∀(k:Nat),k<w.heap.size->pv.ownBlock≠some k->g≠k:=λk hk e e'=>by
  rcases hw with e2|e2
  ·exact e (by rw [e2,e'])
  ·omega
 have key:∀{e:TypeId} {size n:Nat} {v:Value} {xs:List Value},w.ownsRow lo e size v n xs->(∀k,v.ownBlock=some k->¬(T k\/pv.ownBlock=some k))->v.ownBlock≠some cb->(w2.setCell ⟨cb,5,none⟩ (.slice (some ⟨g,0,none⟩) l.length c)).ownsRow lo e size v n xs:=λhr h1 h2=>
  a8 (bE hr λk e l=>Ak k l (λe'=>h1 k e (Or.inr e'))) h2 _ _
 have nog:∀{e:TypeId} {size n:Nat} {v:Value} {xs:List Value},w.ownsRow lo e size v n xs->(∀k,v.ownBlock=some k->¬(T k\/pv.ownBlock=some k))->∀k,v.ownBlock=some k->¬(T k\/(Value.slice (some ⟨g,0,none⟩) l.length c).ownBlock=some k):=λhr h1 k e e'=>
  e'.elim (λe'=>h1 k e (Or.inl e')) (λe'=>old k (aG hr k e).2 (λe2=>h1 k e (Or.inr e2)) (by simpa [Value.ownBlock]using e'))
 refine⟨⟨?_,λk hk=> ?_⟩,⟨nK,?_,key h.oV h.t1 h.n1,key h.uD h.t2 h.n2,key h.tM h.t3 h.n3,h.n1,h.n2,h.n3,h.d1,h.d2,h.d3,λk hk=> ?_,?_,nog h.oV h.t1,nog h.uD h.t2,nog h.tM h.t3,?_⟩,a8 ho (by intro e;simp only [Value.ownBlock,Option.some.injEq]at e;exact Vm e.symm) _ _,hgT.1,hgT.2⟩
 ·have hbl:Below lo w w2:=⟨hg.os,hg.tape,hg.output,hg.size,λk hk=>hg.block k (by omega) (λe=>by have:=(hpt k e.symm).1;omega)⟩
  exact hbl.setCell (p:=⟨cb,5,none⟩) nK _
 ·have gZ:T k:=hk
  exact(Below.heap_setCell w2 ⟨cb,5,none⟩ _ k (λ(e:k=cb)=>lK (Or.inl (by rw [<-e];exact gZ)))).trans (Ak k (R8 k (Or.inl gZ)) (λe=>(hpt k e).2 gZ))
 ·rw [ax ((Ak _ Aj (λe=>lK (Or.inr e))).trans h.blk)];rfl
 ·have gZ:T k\/(Value.slice (some ⟨g,0,none⟩) l.length c).ownBlock=some k:=hk
  have:k<w2.heap.size:=gZ.elim (λe=>by have:=R8 k (Or.inl e);omega) (λe=>by simp only [Value.ownBlock,Option.some.injEq]at e;omega);simpa [World.setCell]using this
 ·intro e
  have e':T cb\/(Value.slice (some ⟨g,0,none⟩) l.length c).ownBlock=some cb:=e;exact e'.elim (λe=>lK (Or.inl e)) (λe=>by simp only [Value.ownBlock,Option.some.injEq]at e;exact Vm e.symm)
 obtain⟨uv,hu,hd⟩:=h.vw
 have hnp:∀k,jG C.V uv k->pv.ownBlock≠some k:=λk hk e=>by
  rcases hk with hk|hk|hk
  ·exact(hd k (Or.inl hk)).2.2.2.2 (Or.inl hk) (Or.inr e)
  ·exact(hpt k e).2 (xH k hk)
  ·exact(hd k (Or.inr (Or.inr hk))).2.2.2.2 (Or.inr hk) (Or.inr e)
 refine⟨uv,(hu.keep (λk hk=>Ak k (hu.has hk).2 (hnp k hk))).set (λk hk=>(hd k hk).1) _ _,λk hk=> ?_⟩;obtain⟨a,b,c',d,f⟩:=hd k hk;exact⟨a,b,c',d,λe e'=>e'.elim (λe'=>f e (Or.inl e')) (λe'=>old k (hu.has hk).2 (hnp k hk) (by simpa [Value.ownBlock]using e'))⟩
theorem kU.mono{T':Nat->Prop}{w':World}(h:kU ⟨lo,T⟩ w w')(hT:∀k,T' k->T k):kU ⟨lo,T'⟩ w w':=⟨h.dB,λk hk=>h.tab k (hT k hk)⟩
end Go.Proofs.YtpmmjkiclngpmaaGreatDoor
