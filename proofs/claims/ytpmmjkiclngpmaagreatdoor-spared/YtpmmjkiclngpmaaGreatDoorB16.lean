/- YtpmmjkiclngpmaaGreatDoorB16 -/
import Derived.Test.YtpmmjkiclngpmaaGreatDoorB15
set_option maxRecDepth 100000
set_option linter.unusedSimpArgs false
set_option linter.unusedVariables false
set_option maxHeartbeats 12800000
namespace Go.Proofs.YtpmmjkiclngpmaaGreatDoor
open Go.RowKit
theorem land_eq (s : CS) (j : Nat) (hj : j < s.code.length) : ({ s with code := s.code.set j (s.code[j].1,(s.code.length : Int)) } : CS) = s.land j := by
  simp [CS.land,List.getD,List.getElem?_eq_getElem hj]
theorem part_any {B : Cb} {w0 : World} {S : Nat → Prop} {C : CK} {fnd : Fnd} {known : List UInt8 → Prop} {cb k : Nat} (ih : ExprC B w0 S C fnd known cb k)
    {x : Ex} {g o : Nat} {s : CS} {w1 w : World} (hsh : Shp known (k + 1) x) (hat : ExAt k S w0 g o x) (hg : g < B.lo) (h : Wrote B cb C w1 s w) (hw1 : Cel B w0 w1) (hf : Fit s (sz (k + 1) x)) :
    Calls Tryz.prog 179 #[.pointer (some ⟨cb,0,none⟩),.pointer (some ⟨g,o,none⟩)] w fun e' w' => e' = .returned (.tuple #[]) ∧ Wrote B cb C w1 (gen fnd (k + 1) x s) w' := by
  obtain ⟨hb,sv,kv,lv,hc⟩ := h
  refine (ih x g o s sv kv lv w hsh hat hg hc (hw1.trans hb) hf).mono ?_
  rintro e' w' ⟨rfl,hwr⟩
  exact ⟨rfl,Wrote.trans hb hwr⟩
theorem emit_w {B : Cb} {cb : Nat} {C : CK} {s : CS} {w1 w : World} (h : Wrote B cb C w1 s w) (op : Nat) (v : Int) (hl : s.code.length ≤ 1000000) :
    Calls Tryz.prog 180 #[.pointer (some ⟨cb,0,none⟩),.int .i64 op,.int .i64 v] w fun e w' => e = .returned (.int .i64 s.code.length) ∧ Wrote B cb C w1 (s.emit op v) w' := by
  obtain ⟨hb,sv,kv,lv,hc⟩ := h
  refine (emit_any B cb C s sv kv lv w hc op v hl).mono ?_
  rintro e' w' ⟨rfl,hwr⟩
  exact ⟨rfl,Wrote.trans hb hwr⟩
theorem land_w {B : Cb} {cb : Nat} {C : CK} {s : CS} {w1 w : World} (h : Wrote B cb C w1 s w) (j : Nat) (hj : j < s.code.length) (hl : s.code.length ≤ 1000000) :
    Calls Tryz.prog 260 #[.pointer (some ⟨cb,0,none⟩),.int .i64 j] w fun e w' => e = .returned (.tuple #[]) ∧ Wrote B cb C w1 (s.land j) w' := by
  obtain ⟨hb,sv,kv,lv,hc⟩ := h
  refine (land_any B cb C s sv kv lv w hc j hj hl).mono ?_
  rintro e' w' ⟨rfl,hwr⟩
  rw [land_eq s j hj] at hwr
  exact ⟨rfl,Wrote.trans hb hwr⟩
theorem enter_w {B : Cb} {cb : Nat} {C : CK} {s : CS} {w1 w : World} (h : Wrote B cb C w1 s w) (name : List UInt8) (hl : s.scope.length ≤ 1000000) (hs : s.slots ≤ 1000000) :
    Calls Tryz.prog 178 #[.pointer (some ⟨cb,0,none⟩),.string ⟨name.toArray⟩] w fun e w' => e = .returned (.int .i64 s.scope.length) ∧ Wrote B cb C w1 (s.enter name) w' := by
  obtain ⟨hb,sv,kv,lv,hc⟩ := h
  refine (enter_any B cb C s sv kv lv w hc name hl hs).mono ?_
  rintro e' w' ⟨rfl,hwr⟩
  exact ⟨rfl,Wrote.trans hb hwr⟩
theorem Wrote.cell {B : Cb} {cb : Nat} {C : CK} {s : CS} {w0 w1 w : World} (h : Wrote B cb C w1 s w) (hw : Cel B w0 w1) {b : Nat} (hb : b < B.lo) (o : Nat) : w.cell? ⟨b,o,none⟩ = w0.cell? ⟨b,o,none⟩ := below_cell (hw.trans h.1).bel hb o
theorem Wrote.size {B : Cb} {cb : Nat} {C : CK} {s : CS} {w1 w : World} (h : Wrote B cb C w1 s w) : B.lo ≤ w.heap.size := by
  obtain ⟨_,sv,kv,lv,hc⟩ := h
  have := hc.lt; have := hc.low; omega
theorem cchoice_any (B : Cb) (w0 : World) (S : Nat → Prop) (hS : ∀ k,S k → k < B.lo) (C : CK) (fnd : Fnd) (known : List UInt8 → Prop) (cb m : Nat) (ih : ∀ k,m = k + 1 → ExprC B w0 S C fnd known cb k)
    (e : Ex) (b o : Nat) (s : CS) (w1 w : World) (pa pb pc : Ex) (hp : e.parts = [pa,pb,pc]) (hsh : ∀ x ∈ e.parts,Shp known m x) (hat : ExAt m S w0 b o e) (hb : b < B.lo) (h : Wrote B cb C w1 s w) (hw : Cel B w0 w1) (hfit : Fit s (1 + szL (sz m) e.parts)) :
    Calls Tryz.prog 220 #[.pointer (some ⟨cb,0,none⟩),.pointer (some ⟨b,o,none⟩)] w fun e' w' => e' = .returned (.tuple #[]) ∧ Wrote B cb C w1 (CS.ifs (gen fnd m) pa pb pc s) w' := by
  obtain ⟨pv,a0,a2,a3,a4,ap⟩ := hat
  obtain ⟨k,g,cap,hmk,rfl,hSg,hgl,hgc,hch⟩ := ap.at (by rw [hp]; simp)
  have hgB := hS g hSg
  subst hmk
  have HI := hide (ih k rfl)
  rw [hp] at a4 hsh hfit
  have HA := hide (show w0.cell? ⟨b,o + 4,none⟩ = some (.slice (some ⟨g,0,none⟩) 3 cap) from a4)
  have HCa := hide (show ExAt k S w0 g 0 pa by have := hch 0 (by rw [hp]; simp); simpa [hp] using this)
  have HCb := hide (show ExAt k S w0 g 5 pb by have := hch 1 (by rw [hp]; simp); simpa [hp] using this)
  have HCc := hide (show ExAt k S w0 g 10 pc by have := hch 2 (by rw [hp]; simp); simpa [hp] using this)
  have HSa := hide (hsh pa (by simp))
  have HSb := hide (hsh pb (by simp))
  have HSc := hide (hsh pc (by simp))
  have HB := hide hw
  have HW := hide h
  have ga := gen_grew fnd (k + 1) pa s
  have gb := gen_grew fnd (k + 1) pb ((gen fnd (k + 1) pa s).emit 4 0)
  have gc := gen_grew fnd (k + 1) pc ((((gen fnd (k + 1) pb ((gen fnd (k + 1) pa s).emit 4 0))).emit 3 0).land (gen fnd (k + 1) pa s).code.length)
  simp only [szL,List.foldr_cons,List.foldr_nil] at hfit
  clear hch hsh a0 a2 a3 a4 ap ih hw h hp hgc hgl
  unfold CS.ifs
  generalize hs1 : gen fnd (k + 1) pa s = s1 at *
  generalize hs3 : gen fnd (k + 1) pb (s1.emit 4 0) = s3 at *
  generalize hs6 : gen fnd (k + 1) pc ((s3.emit 3 0).land s1.code.length) = s6 at *
  have HE1 := hide hs1
  have HE3 := hide hs3
  have HE6 := hide hs6
  have F1 := hide (hfit.mono (m := sz (k + 1) pa) (by omega))
  have e1 : (s1.emit 4 0).code.length = s1.code.length + 1 := by simp [CS.emit]
  have e3 : (s3.emit 3 0).code.length = s3.code.length + 1 := by simp [CS.emit]
  have e5 : ((s3.emit 3 0).land s1.code.length).code.length = s3.code.length + 1 := by simp [CS.land,CS.emit]
  obtain ⟨ga1,ga2,ga3,ga4,ga5⟩ := ga
  obtain ⟨gb1,gb2,gb3,gb4,gb5⟩ := gb
  obtain ⟨gc1,gc2,gc3,gc4,gc5⟩ := gc
  obtain ⟨fa,fb,fc,fd,fe⟩ := hfit
  rw [e1] at gb1
  rw [e5] at gc1
  simp only [CS.emit,CS.land] at gb2 gb3 gb4 gb5 gc2 gc3 gc4 gc5
  have F3 := hide (show Fit (s1.emit 4 0) (sz (k + 1) pb) from ⟨by rw [e1]; omega,by simp only [CS.emit]; rw [ga2]; omega,by simp only [CS.emit]; omega,by simp only [CS.emit]; omega,by simp only [CS.emit]; omega⟩)
  have F6 := hide (show Fit ((s3.emit 3 0).land s1.code.length) (sz (k + 1) pc) from ⟨by rw [e5]; omega,by simp only [CS.emit,CS.land]; rw [gb2,ga2]; omega,by simp only [CS.emit,CS.land]; rw [ga2] at gb3; omega,by simp only [CS.emit,CS.land]; omega,by simp only [CS.emit,CS.land]; omega⟩)
  have l1 : s1.code.length ≤ 1000000 := by omega
  have l3 : s3.code.length ≤ 1000000 := by omega
  have l4 : s1.code.length < (s3.emit 3 0).code.length := by omega
  have l4' : (s3.emit 3 0).code.length ≤ 1000000 := by omega
  have l6 : s3.code.length < s6.code.length := by omega
  have l6' : s6.code.length ≤ 1000000 := by omega
  clear hs1 hs3 hs6 ga1 ga2 ga3 ga4 ga5 gb1 gb2 gb3 gb4 gb5 gc1 gc2 gc3 gc4 gc5 fa fb fc fd fe e1 e3 e5
  have c0 := (HW.out.cell HB.out hb (o + 4)).trans HA.out
  have z0 := HW.out.size
  have y0 : b < w.heap.size := by omega
  have x0 : g < w.heap.size := by omega
  go_enter Tryz.func220,Tryz.ntmps220
  go_wp2_with fail
  refine (part_any HI.out HSa.out HCa.out hgB HW.out HB.out F1.out).mono ?_
  rintro e' w2 ⟨rfl,hw2⟩
  rw [HE1.out] at hw2
  have HW2 := hide hw2
  clear hw2 c0
  go_wp2_with fail
  refine (emit_w HW2.out 4 0 l1).mono ?_
  rintro e' w3 ⟨rfl,hw3⟩
  have HW3 := hide hw3
  have c3 := (hw3.cell HB.out hb (o + 4)).trans HA.out
  have z3 := hw3.size
  have y3 : b < w3.heap.size := by omega
  have x3 : g < w3.heap.size := by omega
  clear hw3
  go_wp2_with fail
  refine (part_any HI.out HSb.out HCb.out hgB HW3.out HB.out F3.out).mono ?_
  rintro e' w4 ⟨rfl,hw4⟩
  rw [HE3.out] at hw4
  have HW4 := hide hw4
  clear hw4 c3
  go_wp2_with fail
  refine (emit_w HW4.out 3 0 l3).mono ?_
  rintro e' w5 ⟨rfl,hw5⟩
  have HW5 := hide hw5
  clear hw5
  go_wp2_with fail
  refine (land_w HW5.out s1.code.length l4 l4').mono ?_
  rintro e' w6 ⟨rfl,hw6⟩
  have HW6 := hide hw6
  have c6 := (hw6.cell HB.out hb (o + 4)).trans HA.out
  have z6 := hw6.size
  have y6 : b < w6.heap.size := by omega
  have x6 : g < w6.heap.size := by omega
  clear hw6
  go_wp2_with fail
  refine (part_any HI.out HSc.out HCc.out hgB HW6.out HB.out F6.out).mono ?_
  rintro e' w7 ⟨rfl,hw7⟩
  rw [HE6.out] at hw7
  have HW7 := hide hw7
  clear hw7 c6
  go_wp2_with fail
  refine (land_w HW7.out s3.code.length l6 l6').mono ?_
  rintro e' w8 ⟨rfl,hw8⟩
  have HW8 := hide hw8
  clear hw8
  go_wp2
  go_end0
  exact ⟨rfl,HW8.out⟩
end Go.Proofs.YtpmmjkiclngpmaaGreatDoor
namespace Go.Proofs.YtpmmjkiclngpmaaGreatDoor
open Go.RowKit
theorem cbinding_any (B : Cb) (w0 : World) (S : Nat → Prop) (hS : ∀ k,S k → k < B.lo) (C : CK) (fnd : Fnd) (known : List UInt8 → Prop) (cb m : Nat) (ih : ∀ k,m = k + 1 → ExprC B w0 S C fnd known cb k)
    (e : Ex) (b o : Nat) (s : CS) (w1 w : World) (pa pb : Ex) (hp : e.parts = [pa,pb]) (hsh : ∀ x ∈ e.parts,Shp known m x) (hat : ExAt m S w0 b o e) (hb : b < B.lo) (h : Wrote B cb C w1 s w) (hw : Cel B w0 w1) (hfit : Fit s (1 + szL (sz m) e.parts)) :
    Calls Tryz.prog 221 #[.pointer (some ⟨cb,0,none⟩),.pointer (some ⟨b,o,none⟩)] w fun e' w' => e' = .returned (.tuple #[]) ∧ Wrote B cb C w1 (CS.lets (gen fnd m) e.name pa pb s) w' := by
  obtain ⟨pv,a0,a2,a3,a4,ap⟩ := hat
  obtain ⟨k,g,cap,hmk,rfl,hSg,hgl,hgc,hch⟩ := ap.at (by rw [hp]; simp)
  have hgB := hS g hSg
  subst hmk
  have HI := hide (ih k rfl)
  rw [hp] at a4 hsh hfit
  have HA := hide (show w0.cell? ⟨b,o + 4,none⟩ = some (.slice (some ⟨g,0,none⟩) 2 cap) from a4)
  have HN := hide a2
  have HCa := hide (show ExAt k S w0 g 0 pa by have := hch 0 (by rw [hp]; simp); simpa [hp] using this)
  have HCb := hide (show ExAt k S w0 g 5 pb by have := hch 1 (by rw [hp]; simp); simpa [hp] using this)
  have HSa := hide (hsh pa (by simp))
  have HSb := hide (hsh pb (by simp))
  have HB := hide hw
  have HW := hide h
  have ga := gen_grew fnd (k + 1) pa s
  have gb := gen_grew fnd (k + 1) pb (((gen fnd (k + 1) pa s).enter e.name).emit 2 (gen fnd (k + 1) pa s).scope.length)
  simp only [szL,List.foldr_cons,List.foldr_nil] at hfit
  clear hch hsh a0 a2 a3 a4 ap ih hw h hp hgc hgl
  unfold CS.lets
  generalize hs1 : gen fnd (k + 1) pa s = s1 at *
  generalize hs3 : gen fnd (k + 1) pb ((s1.enter e.name).emit 2 s1.scope.length) = s3 at *
  have HE1 := hide hs1
  have HE3 := hide hs3
  have F1 := hide (hfit.mono (m := sz (k + 1) pa) (by omega))
  have e1 : ((s1.enter e.name).emit 2 s1.scope.length).code.length = s1.code.length + 1 := by simp [CS.emit,CS.enter]
  obtain ⟨ga1,ga2,ga3,ga4,ga5⟩ := ga
  obtain ⟨gb1,gb2,gb3,gb4,gb5⟩ := gb
  obtain ⟨fa,fb,fc,fd,fe⟩ := hfit
  rw [e1] at gb1
  simp only [CS.emit,CS.enter,List.length_append,List.length_cons,List.length_nil] at gb2 gb3 gb4 gb5
  have F3 := hide (show Fit ((s1.enter e.name).emit 2 s1.scope.length) (sz (k + 1) pb) from ⟨by rw [e1]; omega,by simp only [CS.emit,CS.enter,List.length_append,List.length_cons,List.length_nil]; rw [ga2]; omega,by simp only [CS.emit,CS.enter]; rw [ga2]; omega,by simp only [CS.emit,CS.enter]; omega,by simp only [CS.emit,CS.enter]; omega⟩)
  have l1 : (s1.enter e.name).code.length ≤ 1000000 := by simp only [CS.enter]; omega
  have l2 : s1.scope.length ≤ 1000000 := by rw [ga2]; omega
  have l3 : s1.slots ≤ 1000000 := by omega
  have ls : s.scope.length ≤ 1000000 := by omega
  have HSc := hide (show s3.scope = s.scope ++ [e.name] by rw [gb2,ga2])
  clear hs1 hs3 ga1 ga2 ga3 ga4 ga5 gb1 gb2 gb3 gb4 gb5 fa fb fc fd fe e1
  obtain ⟨hbw,sv0,kv0,lv0,hcd0⟩ := HW.out
  obtain ⟨so,sc,rfl⟩ := owns_shape' hcd0.sco
  obtain ⟨_,f1,_,_,_⟩ := hcd0.field
  have fl := hcd0.lt
  clear hbw hcd0
  have c0 := (HW.out.cell HB.out hb (o + 4)).trans HA.out
  have z0 := HW.out.size
  have y0 : b < w.heap.size := by omega
  have x0 : g < w.heap.size := by omega
  go_enter Tryz.func221,Tryz.ntmps221
  go_wp2_with fail
  refine (part_any HI.out HSa.out HCa.out hgB HW.out HB.out F1.out).mono ?_
  rintro e' w2 ⟨rfl,hw2⟩
  rw [HE1.out] at hw2
  have HW2 := hide hw2
  have n2 := (hw2.cell HB.out hb (o + 2)).trans HN.out
  have z2 := hw2.size
  have y2 : b < w2.heap.size := by omega
  clear hw2 c0 f1
  go_wp2_with fail
  refine (enter_w HW2.out e.name l2 l3).mono ?_
  rintro e' w3 ⟨rfl,hw3⟩
  have HW3 := hide hw3
  clear hw3 n2
  go_wp2_with fail
  refine (emit_w HW3.out 2 _ l1).mono ?_
  rintro e' w4 ⟨rfl,hw4⟩
  have HW4 := hide hw4
  have c4 := (hw4.cell HB.out hb (o + 4)).trans HA.out
  have z4 := hw4.size
  have y4 : b < w4.heap.size := by omega
  have x4 : g < w4.heap.size := by omega
  clear hw4
  go_wp2_with fail
  refine (part_any HI.out HSb.out HCb.out hgB HW4.out HB.out F3.out).mono ?_
  rintro e' w5 ⟨rfl,hw5⟩
  rw [HE3.out] at hw5
  obtain ⟨hb5,sv5,kv5,lv5,hc5⟩ := hw5
  have hsl : s3.scope.length = s.scope.length + 1 := by rw [HSc.out]; simp
  obtain ⟨d,dc,cur,rfl,hd1,hd2,hd3,hd4,hd5,hd6⟩ := owr_shape hc5.sco (by omega)
  obtain ⟨f0,f1,f7,f8,f9⟩ := hc5.field
  have g0 := free_block hc5.blk
  have h1 := hc5.lt
  have hdl := lt_of_some hd2
  have HB5 := hide hb5
  have HP := hide (hc5.putScope (grown_refl w5 _) (.slice (some ⟨d,0,none⟩) s.scope.length dc) (s3.scope.take s.scope.length) (by
    have := owns_cut hc5.sco s.scope.length (by omega)
    have hl : (s3.scope.take s.scope.length).length = s.scope.length := by rw [List.length_take]; omega
    rw [hl]
    simpa [strCells,List.map_take] using this) (fun k e => Or.inl e))
  have hdc : s.scope.length ≤ dc := by omega
  clear hb5 hc5 hd2 hd5 hd6 c4
  go_wp2
  go_end0
  exact ⟨rfl,Wrote.mk ⟨HB5.out.trans HP.out.1,HP.out.2⟩⟩
theorem ccall_any (B : Cb) (w0 : World) (S : Nat → Prop) (hS : ∀ k,S k → k < B.lo) (C : CK) (fnd : Fnd) (known : List UInt8 → Prop) (hfnd : FindC B w0 C fnd known) (vb : Nat) (hc0 : C.c0 = .pointer (some ⟨vb,0,none⟩)) (cb m : Nat) (ih : ∀ k,m = k + 1 → ExprC B w0 S C fnd known cb k)
    (e : Ex) (b o : Nat) (s : CS) (w1 w : World) (hkn : known e.name) (hsh : ∀ x ∈ e.parts,Shp known m x) (hat : ExAt m S w0 b o e) (hb : b < B.lo) (h : Wrote B cb C w1 s w) (hw : Cel B w0 w1) (hfit : Fit s (1 + szL (sz m) e.parts)) :
    Calls Tryz.prog 222 #[.pointer (some ⟨cb,0,none⟩),.pointer (some ⟨b,o,none⟩)] w fun e' w' => e' = .returned (.tuple #[]) ∧ Wrote B cb C w1 (((gens (gen fnd m) e.parts s).saw (fnd.use e.name)).calls1 (fnd.sym e.name)) w' := by
  have hat' := hat
  obtain ⟨pv,a0,a2,a3,a4,ap⟩ := hat
  have gp := gens_grew (g := gen fnd m) (sz := sz m) e.parts (fun x _ s => gen_grew fnd m x s) s
  have hpl := szL_len (sz m) e.parts (fun x _ => sz_pos m x)
  have HI := hide ih
  have HN := hide a2
  have HAt := hide hat'
  have HSh := hide hsh
  have HB := hide hw
  have HW := hide h
  have HF := hide hfnd
  have HK := hide hkn
  obtain ⟨fa,fb,fc,fd,fe⟩ := hfit
  have F1 := hide (show Fit s (szL (sz m) e.parts) from ⟨by omega,by omega,fc,by omega,by omega⟩)
  have hl0 : e.parts.length ≤ 1000000 := by omega
  generalize hs1 : gens (gen fnd m) e.parts s = s1 at *
  have HE := hide hs1
  obtain ⟨gp1,gp2,gp3,gp4,gp5⟩ := gp
  have hlk1 : s1.lk.length ≤ 8000000000 := by omega
  have l1 : s1.code.length ≤ 1000000 := by omega
  have l2 : s1.calls.length + 1 ≤ 1000000 := by omega
  obtain ⟨i0,hi,hz0,hz1,hz2⟩ := info_parts info_sym
  clear hs1 gp1 gp2 gp3 gp4 gp5 fa fb fc fd fe ih a0 a2 a3 a4 ap hat' hsh hw h hfnd hkn hpl
  obtain ⟨hbw,sv0,kv0,lv0,hcd0⟩ := HW.out
  have HCd := hide hcd0
  have HBw := hide hbw
  clear hbw hcd0
  go_enter Tryz.func222,Tryz.ntmps222
  go_wp2_with fail
  refine (parts_any B w0 S hS C fnd known cb m HI.out e b o s sv0 kv0 lv0 _ HSh.out HAt.out hb HCd.out (HB.out.trans HBw.out) F1.out hl0).mono ?_
  rintro e' w2 ⟨rfl,hw2⟩
  rw [HE.out] at hw2
  have hw2' := Wrote.trans HBw.out hw2
  have HW2 := hide hw2'
  have n2 := (hw2'.cell HB.out hb (o + 2)).trans HN.out
  have z2 := hw2'.size
  have y2 : b < w2.heap.size := by omega
  obtain ⟨hb2,sv2,kv2,lv2,hc2⟩ := hw2'
  obtain ⟨f0,f1,f7,f8,f9⟩ := hc2.field
  rw [hc0] at f0
  have h2l := hc2.lt
  have HC2 := hide hc2
  have HB2 := hide hb2
  clear hw2 hb2 hc2
  go_wp2_with fail
  obtain ⟨uv2,hu2,hd2⟩ := HC2.out.vw
  have HU2 := hide hu2
  have HD2 := hide hd2
  clear hu2 hd2
  go_cut [4] (fun s4 wx => s4 = .string ⟨(fnd.sym e.name).1.toArray⟩ ∧ Hid ((fnd.sym e.name).2 = e.name) ∧ Hid (Wrote B cb C w1 (s1.saw (fnd.use e.name)) wx))
  case first =>
    go_region_with (go_at_call 261; go_must (refine (Calls.mono (by rw [← hc0]; exact HF.out e.name s1.lk uv2 _ HK.out (by exact (HB.out.trans HB2.out).drew) (by exact HU2.out.drew) hlk1) ?_); rintro e' w3 ⟨⟨ap,rfl⟩,hn3,uv3,hm3,hu3⟩; have HM3 := hide (Moved.drew0 hm3); have HU3 := hide hu3; have HN3 := hide hn3; clear hm3 hu3 hn3))
    all_goals
      (try go_wp2_with fail)
      go_meet
      exact ⟨rfl,HN3.out,Wrote.mk ⟨HB2.out.trans (HC2.out.found HU2.out HD2.out HM3.out HU3.out).1,(HC2.out.found HU2.out HD2.out HM3.out HU3.out).2⟩⟩
  case rest =>
    obtain ⟨rfl,HN3,HWq⟩ := hcut
    have l1q : (s1.saw (fnd.use e.name)).code.length ≤ 1000000 := l1
    have l2q : (s1.saw (fnd.use e.name)).calls.length + 1 ≤ 1000000 := l2
    generalize hsq : s1.saw (fnd.use e.name) = sq at *
    have HSq := hide hsq
    clear hsq
    obtain ⟨hbq,svq,kvq,lvq,hcq⟩ := HWq.out
    have HC3 := hide hcq
    have HBc := hide hbq
    have n3 := (HWq.out.cell HB.out hb (o + 2)).trans HN.out
    have zq := HWq.out.size
    have yq : b < wc.heap.size := by omega
    clear hbq hcq f0 f1 f7 f8 f9 h2l n2 y2 HU2 HD2
    obtain ⟨so,sc,rfl⟩ := owns_shape' HC3.out.cal
    obtain ⟨f0,f1,f7,f8,f9⟩ := HC3.out.field
    have g0 := free_block HC3.out.blk
    have h1 := HC3.out.lt
    have h2 := HC3.out.low
    have hBc : B.lo ≤ wc.heap.size := by omega
    have b1 : sq.calls.length + 1 ≤ maxLen := by unfold maxLen; omega
    have b2 : (sq.calls.length + 1) * 32 ≤ 140737488355328 := by omega
    go_wp2_with fail
    have hone : ∀ u ∈ [Value.string ⟨(fnd.sym e.name).1.toArray⟩,Value.string ⟨e.name.toArray⟩],u.oneCell' = true := by
      intro u hu
      rcases List.mem_cons.1 hu with rfl | hu
      · rfl
      · rcases List.mem_cons.1 hu with rfl | hu
        · rfl
        · cases hu
    have HOne := hide hone
    clear hone
    have hBd : B.lo ≤ (wc.drew.alloc (.cells #[.string ⟨(fnd.sym e.name).1.toArray⟩,.string ⟨e.name.toArray⟩] 87)).heap.size := by simp; omega
    have HBd := hide hBd
    clear hBd
    go_cut [] (fun wx => Hid (Wrote B cb C w1 { sq with calls := sq.calls ++ [fnd.sym e.name] } wx))
    case first =>
      go_region_law (refine step_app_where rfl (.tmp 26) (.tmp 33) 90 rfl B.lo 87 i0 (.agg #[.string ⟨#[]⟩,.string ⟨#[]⟩]) 2 32 Tryz.underlying90 hi hz0 hz1 hz2 rfl (by decide) (.slice so sq.calls.length sc) sq.calls.length (symCells sq.calls) ?_ ?_ ⟨wc.heap.size,0,none⟩ 1 1 [.string ⟨(fnd.sym e.name).1.toArray⟩,.string ⟨e.name.toArray⟩] ?_ rfl ?_ HOne.out b1 b2 ?_ ?_; (simp [Act.eval,Act.put]); (exact (HC3.out.drew.alloc _).cal); (simp [Act.eval,Act.put]); (exact (new2_cells wc.drew _ _ _)); (exact HBd.out); intro v' w4 hown hgrow hwhere; obtain ⟨vo,vc,rfl⟩ := owns_shape' hown; have HG := hide (grown_drew1 (grown_alloc hgrow)); have HO := hide hown; have HWh := hide hwhere; have hmk := (HG.out.block cb h1 (fun e => HC3.out.n3 e.symm)).trans HC3.out.blk; have k9 := cell_block hmk 9; have kf := free_block hmk; have kl := lt_of_some hmk; simp at k9; clear hown hgrow hwhere hmk)
      all_goals
        have HQ := hide (HC3.out.putCalls HG.out (.slice vo (sq.calls.length + 1) vc) (sq.calls ++ [fnd.sym e.name]) (by rw [symCells_snoc,List.length_append,HN3.out]; exact HO.out) (fun q e => (HWh.out q e).imp id (fun h => by have h' : wc.heap.size + 1 ≤ q := (by simpa using h); omega)))
        (try go_wp2_with fail)
        go_meet
        exact Wrote.mk ⟨HBc.out.trans HQ.out.1,HQ.out.2⟩
    case rest =>
      have HWc := hcut
      obtain ⟨hb5,sv5,kv5,lv5,hc5⟩ := HWc.out
      obtain ⟨qo,qc,rfl⟩ := owns_shape' hc5.cal
      obtain ⟨v0,v1,v7,v8,v9⟩ := hc5.field
      have v9' : wc.cell? ⟨cb,9,none⟩ = some (.slice qo (sq.calls.length + 1) qc) := by rw [v9]; simp
      have hl5 := hc5.lt
      clear v0 v1 v7 v8 v9 hb5 hc5 f0 f1 f7 f8 f9 g0
      go_wp2_with fail
      refine (emit_w HWc.out 5 _ (by exact l1q)).mono ?_
      rintro e' w6 ⟨rfl,hw6⟩
      have HW6 := hide hw6
      clear hw6
      go_wp2
      go_end0
      exact ⟨rfl,by rw [HSq.out]; exact HW6.out⟩
end Go.Proofs.YtpmmjkiclngpmaaGreatDoor
namespace Go.Proofs.YtpmmjkiclngpmaaGreatDoor
open Go.RowKit
theorem expr_step (B : Cb) (w0 : World) (S : Nat → Prop) (hS : ∀ k,S k → k < B.lo) (C : CK) (fnd : Fnd) (known : List UInt8 → Prop) (hfnd : FindC B w0 C fnd known) (vb : Nat) (hc0 : C.c0 = .pointer (some ⟨vb,0,none⟩)) (cb m : Nat)
    (ih : ∀ k,m = k + 1 → ExprC B w0 S C fnd known cb k) : ExprC B w0 S C fnd known cb m := by
  intro e b o s sv kv lv w hsh hat hb h hw hfit
  have hat' := hat
  obtain ⟨pv,a0,a2,a3,a4,ap⟩ := hat
  obtain ⟨hk15,hk4,hk5,hk6,hk3,hpar⟩ := hsh
  have hsz : sz (m + 1) e = 1 + szL (sz m) e.parts := rfl
  rw [hsz] at hfit
  have hpl := szL_len (sz m) e.parts (fun x _ => sz_pos m x)
  have gp := gens_grew (g := gen fnd m) (sz := sz m) e.parts (fun x _ s => gen_grew fnd m x s) s
  have c0 := (below_cell hw.bel hb o).trans a0
  have c2 := (below_cell hw.bel hb (o + 2)).trans a2
  have c3 := (below_cell hw.bel hb (o + 3)).trans a3
  have c4 := (below_cell hw.bel hb (o + 4)).trans a4
  have hlt := h.lt
  have hlow := h.low
  have hbl : b < w.heap.size := by omega
  obtain ⟨fa,fb,fc,fd,fe⟩ := hfit
  have hl0 : e.parts.length ≤ 1000000 := by omega
  have l0 : s.code.length ≤ 1000000 := by omega
  have l1 : (gens (gen fnd m) e.parts s).code.length ≤ 1000000 := by have := gp.code; omega
  have ls : s.scope.length ≤ 1000000 := by omega
  have FP := hide (show Fit s (szL (sz m) e.parts) from ⟨by omega,by omega,fc,by omega,by omega⟩)
  have FF := hide (show Fit s (1 + szL (sz m) e.parts) from ⟨fa,fb,fc,fd,fe⟩)
  have HWr := hide (Wrote.mk (⟨Cel.refl B w,h⟩ : Cel B w w ∧ Cd B cb C s sv kv lv w))
  have HM := hide h
  have HI := hide ih
  have HAt := hide hat'
  have HAt0 := hide a0
  have HSh := hide hpar
  have HW := hide hw
  have HS := hide hS
  have HF := hide hfnd
  have HP := hide ap
  have HK3 := hide hk3
  clear ih hat' a0 a2 a3 a4 hw h hS hfnd gp fa fb fc fd fe hpl hsz ap hpar hk3
  have hx : (e.kind = 0 ∨ e.kind = 1) ∨ e.kind = 2 ∨ e.kind = 3 ∨ e.kind = 4 ∨ e.kind = 5 ∨ e.kind = 6 ∨ e.kind = 7 ∨ e.kind = 8 ∨ e.kind = 9 ∨ e.kind = 10 ∨ e.kind = 11 ∨ e.kind = 12 ∨ e.kind = 13 ∨ e.kind = 14 := by omega
  rcases hx with hk | hk | hk | hk | hk | hk | hk | hk | hk | hk | hk | hk | hk | hk
  · have HG := hide (show gen fnd (m + 1) e s = s.emit 0 e.value by simp [gen,hk])
    rcases hk with hk | hk
    · have hk' : w.cell? ⟨b,o,none⟩ = some (.int .i64 0) := by rw [c0,hk]; rfl
      clear c0
      go_enter Tryz.func179,Tryz.ntmps179
      go_wp2_with fail
      refine (emit_w HWr.out 0 e.value l0).mono ?_
      rintro e' w3 ⟨rfl,hw3⟩
      have HW3 := hide hw3
      clear hw3
      go_wp2
      go_end0
      exact ⟨rfl,by rw [HG.out]; exact HW3.out⟩
    · have hk' : w.cell? ⟨b,o,none⟩ = some (.int .i64 1) := by rw [c0,hk]; rfl
      clear c0
      go_enter Tryz.func179,Tryz.ntmps179
      go_wp2_with fail
      refine (emit_w HWr.out 0 e.value l0).mono ?_
      rintro e' w3 ⟨rfl,hw3⟩
      have HW3 := hide hw3
      clear hw3
      go_wp2
      go_end0
      exact ⟨rfl,by rw [HG.out]; exact HW3.out⟩
  · have HG := hide (show gen fnd (m + 1) e s = s.emit 1 (slotI s.scope e.name) by simp [gen,hk])
    have hk' : w.cell? ⟨b,o,none⟩ = some (.int .i64 2) := by rw [c0,hk]; rfl
    clear c0
    go_enter Tryz.func179,Tryz.ntmps179
    go_wp2_with fail
    refine (slot_any B cb C s sv kv lv _ HM.out e.name ls).mono ?_
    rintro e' w2 ⟨rfl,rfl⟩
    go_wp2_with fail
    refine (emit_w HWr.out 1 _ l0).mono ?_
    rintro e' w3 ⟨rfl,hw3⟩
    have HW3 := hide hw3
    clear hw3
    go_wp2
    go_end0
    exact ⟨rfl,by rw [HG.out]; exact HW3.out⟩
  · have HG := hide (show gen fnd (m + 1) e s = ((gens (gen fnd m) e.parts s).saw (fnd.use e.name)).calls1 (fnd.sym e.name) by simp [gen,hk])
    have hk' : w.cell? ⟨b,o,none⟩ = some (.int .i64 3) := by rw [c0,hk]; rfl
    clear c0
    go_enter Tryz.func179,Tryz.ntmps179
    go_wp2_with fail
    refine (ccall_any B w0 S HS.out C fnd known HF.out vb hc0 cb m HI.out e b o s w _ (HK3.out hk) HSh.out HAt.out hb HWr.out HW.out FF.out).mono ?_
    rintro e' w3 ⟨rfl,hw3⟩
    have HW3 := hide hw3
    clear hw3
    go_wp2
    go_end0
    exact ⟨rfl,by rw [HG.out]; exact HW3.out⟩
  · obtain ⟨pa,hpa⟩ : ∃ pa,e.parts = [pa] := List.length_eq_one_iff.1 (hk4 hk)
    have HG := hide (show gen fnd (m + 1) e s = gen fnd m pa s by simp [gen,hk,hpa,gens])
    have hk' : w.cell? ⟨b,o,none⟩ = some (.int .i64 4) := by rw [c0,hk]; rfl
    clear c0
    obtain ⟨k,g,cap,hmk,rfl,hSg,hgl,hgc,hch⟩ := HP.out.at (by rw [hpa]; simp)
    subst hmk
    have hgB := HS.out g hSg
    have HCa := hide (show ExAt k S w0 g 0 pa by have := hch 0 (by rw [hpa]; simp); simpa [hpa] using this)
    have HSa := hide (HSh.out pa (by simp [hpa]))
    have F1 := hide (FF.out.mono (m := sz (k + 1) pa) (by rw [hpa]; simp only [szL,List.foldr_cons,List.foldr_nil]; omega))
    have hgl2 : g < w.heap.size := by omega
    rw [hpa] at c4
    have c4' : w.cell? ⟨b,o + 4,none⟩ = some (.slice (some ⟨g,0,none⟩) 1 cap) := c4
    clear c4 hch hpa hgc
    go_enter Tryz.func179,Tryz.ntmps179
    go_wp2_with fail
    refine (part_any (HI.out k rfl) HSa.out HCa.out hgB HWr.out HW.out F1.out).mono ?_
    rintro e' w3 ⟨rfl,hw3⟩
    have HW3 := hide hw3
    clear hw3
    go_wp2
    go_end0
    exact ⟨rfl,by rw [HG.out]; exact HW3.out⟩
  · obtain ⟨pa,pb,pc,hpa⟩ : ∃ pa pb pc,e.parts = [pa,pb,pc] := len3 (hk5 hk)
    have HG := hide (show gen fnd (m + 1) e s = CS.ifs (gen fnd m) pa pb pc s by simp [gen,hk,hpa])
    have hk' : w.cell? ⟨b,o,none⟩ = some (.int .i64 5) := by rw [c0,hk]; rfl
    have HPa := hide hpa
    clear c0 hpa
    go_enter Tryz.func179,Tryz.ntmps179
    go_wp2_with fail
    refine (cchoice_any B w0 S HS.out C fnd known cb m HI.out e b o s w _ pa pb pc HPa.out HSh.out HAt.out hb HWr.out HW.out FF.out).mono ?_
    rintro e' w3 ⟨rfl,hw3⟩
    have HW3 := hide hw3
    clear hw3
    go_wp2
    go_end0
    exact ⟨rfl,by rw [HG.out]; exact HW3.out⟩
  · obtain ⟨pa,pb,hpa⟩ : ∃ pa pb,e.parts = [pa,pb] := len2 (hk6 hk)
    have HG := hide (show gen fnd (m + 1) e s = CS.lets (gen fnd m) e.name pa pb s by simp [gen,hk,hpa])
    have hk' : w.cell? ⟨b,o,none⟩ = some (.int .i64 6) := by rw [c0,hk]; rfl
    have HPa := hide hpa
    clear c0 hpa
    go_enter Tryz.func179,Tryz.ntmps179
    go_wp2_with fail
    refine (cbinding_any B w0 S HS.out C fnd known cb m HI.out e b o s w _ pa pb HPa.out HSh.out HAt.out hb HWr.out HW.out FF.out).mono ?_
    rintro e' w3 ⟨rfl,hw3⟩
    have HW3 := hide hw3
    clear hw3
    go_wp2
    go_end0
    exact ⟨rfl,by rw [HG.out]; exact HW3.out⟩
  · have HG := hide (show gen fnd (m + 1) e s = (gens (gen fnd m) e.parts s).emit (opOf 7) 0 by simp [gen,hk])
    have hk' : w.cell? ⟨b,o,none⟩ = some (.int .i64 7) := by rw [c0,hk]; rfl
    clear c0
    go_enter Tryz.func179,Tryz.ntmps179
    go_wp2_with fail
    refine (parts_any B w0 S HS.out C fnd known cb m HI.out e b o s sv kv lv _ HSh.out HAt.out hb HM.out HW.out FP.out hl0).mono ?_
    rintro e' w2 ⟨rfl,hw2⟩
    have d0 := (hw2.cell HW.out hb o).trans ((HAt0.out).trans (by rw [hk]; rfl : some (Value.int .i64 e.kind) = some (Value.int .i64 7)))
    have z2 := hw2.size
    have y2 : b < w2.heap.size := by omega
    have HW2 := hide hw2
    clear hw2 hk'
    go_wp2_with fail
    refine (operator_any 7 (by omega) _).mono ?_
    rintro e' w3 ⟨rfl,rfl⟩
    go_wp2_with fail
    refine (emit_w HW2.out _ 0 l1).mono ?_
    rintro e' w3 ⟨rfl,hw3⟩
    have HW3 := hide hw3
    clear hw3
    go_wp2
    go_end0
    exact ⟨rfl,by rw [HG.out]; exact HW3.out⟩
  · have HG := hide (show gen fnd (m + 1) e s = (gens (gen fnd m) e.parts s).emit (opOf 8) 0 by simp [gen,hk])
    have hk' : w.cell? ⟨b,o,none⟩ = some (.int .i64 8) := by rw [c0,hk]; rfl
    clear c0
    go_enter Tryz.func179,Tryz.ntmps179
    go_wp2_with fail
    refine (parts_any B w0 S HS.out C fnd known cb m HI.out e b o s sv kv lv _ HSh.out HAt.out hb HM.out HW.out FP.out hl0).mono ?_
    rintro e' w2 ⟨rfl,hw2⟩
    have d0 := (hw2.cell HW.out hb o).trans ((HAt0.out).trans (by rw [hk]; rfl : some (Value.int .i64 e.kind) = some (Value.int .i64 8)))
    have z2 := hw2.size
    have y2 : b < w2.heap.size := by omega
    have HW2 := hide hw2
    clear hw2 hk'
    go_wp2_with fail
    refine (operator_any 8 (by omega) _).mono ?_
    rintro e' w3 ⟨rfl,rfl⟩
    go_wp2_with fail
    refine (emit_w HW2.out _ 0 l1).mono ?_
    rintro e' w3 ⟨rfl,hw3⟩
    have HW3 := hide hw3
    clear hw3
    go_wp2
    go_end0
    exact ⟨rfl,by rw [HG.out]; exact HW3.out⟩
  · have HG := hide (show gen fnd (m + 1) e s = (gens (gen fnd m) e.parts s).emit (opOf 9) 0 by simp [gen,hk])
    have hk' : w.cell? ⟨b,o,none⟩ = some (.int .i64 9) := by rw [c0,hk]; rfl
    clear c0
    go_enter Tryz.func179,Tryz.ntmps179
    go_wp2_with fail
    refine (parts_any B w0 S HS.out C fnd known cb m HI.out e b o s sv kv lv _ HSh.out HAt.out hb HM.out HW.out FP.out hl0).mono ?_
    rintro e' w2 ⟨rfl,hw2⟩
    have d0 := (hw2.cell HW.out hb o).trans ((HAt0.out).trans (by rw [hk]; rfl : some (Value.int .i64 e.kind) = some (Value.int .i64 9)))
    have z2 := hw2.size
    have y2 : b < w2.heap.size := by omega
    have HW2 := hide hw2
    clear hw2 hk'
    go_wp2_with fail
    refine (operator_any 9 (by omega) _).mono ?_
    rintro e' w3 ⟨rfl,rfl⟩
    go_wp2_with fail
    refine (emit_w HW2.out _ 0 l1).mono ?_
    rintro e' w3 ⟨rfl,hw3⟩
    have HW3 := hide hw3
    clear hw3
    go_wp2
    go_end0
    exact ⟨rfl,by rw [HG.out]; exact HW3.out⟩
  · have HG := hide (show gen fnd (m + 1) e s = (gens (gen fnd m) e.parts s).emit (opOf 10) 0 by simp [gen,hk])
    have hk' : w.cell? ⟨b,o,none⟩ = some (.int .i64 10) := by rw [c0,hk]; rfl
    clear c0
    go_enter Tryz.func179,Tryz.ntmps179
    go_wp2_with fail
    refine (parts_any B w0 S HS.out C fnd known cb m HI.out e b o s sv kv lv _ HSh.out HAt.out hb HM.out HW.out FP.out hl0).mono ?_
    rintro e' w2 ⟨rfl,hw2⟩
    have d0 := (hw2.cell HW.out hb o).trans ((HAt0.out).trans (by rw [hk]; rfl : some (Value.int .i64 e.kind) = some (Value.int .i64 10)))
    have z2 := hw2.size
    have y2 : b < w2.heap.size := by omega
    have HW2 := hide hw2
    clear hw2 hk'
    go_wp2_with fail
    refine (operator_any 10 (by omega) _).mono ?_
    rintro e' w3 ⟨rfl,rfl⟩
    go_wp2_with fail
    refine (emit_w HW2.out _ 0 l1).mono ?_
    rintro e' w3 ⟨rfl,hw3⟩
    have HW3 := hide hw3
    clear hw3
    go_wp2
    go_end0
    exact ⟨rfl,by rw [HG.out]; exact HW3.out⟩
  · have HG := hide (show gen fnd (m + 1) e s = (gens (gen fnd m) e.parts s).emit (opOf 11) 0 by simp [gen,hk])
    have hk' : w.cell? ⟨b,o,none⟩ = some (.int .i64 11) := by rw [c0,hk]; rfl
    clear c0
    go_enter Tryz.func179,Tryz.ntmps179
    go_wp2_with fail
    refine (parts_any B w0 S HS.out C fnd known cb m HI.out e b o s sv kv lv _ HSh.out HAt.out hb HM.out HW.out FP.out hl0).mono ?_
    rintro e' w2 ⟨rfl,hw2⟩
    have d0 := (hw2.cell HW.out hb o).trans ((HAt0.out).trans (by rw [hk]; rfl : some (Value.int .i64 e.kind) = some (Value.int .i64 11)))
    have z2 := hw2.size
    have y2 : b < w2.heap.size := by omega
    have HW2 := hide hw2
    clear hw2 hk'
    go_wp2_with fail
    refine (operator_any 11 (by omega) _).mono ?_
    rintro e' w3 ⟨rfl,rfl⟩
    go_wp2_with fail
    refine (emit_w HW2.out _ 0 l1).mono ?_
    rintro e' w3 ⟨rfl,hw3⟩
    have HW3 := hide hw3
    clear hw3
    go_wp2
    go_end0
    exact ⟨rfl,by rw [HG.out]; exact HW3.out⟩
  · have HG := hide (show gen fnd (m + 1) e s = (gens (gen fnd m) e.parts s).emit (opOf 12) 0 by simp [gen,hk])
    have hk' : w.cell? ⟨b,o,none⟩ = some (.int .i64 12) := by rw [c0,hk]; rfl
    clear c0
    go_enter Tryz.func179,Tryz.ntmps179
    go_wp2_with fail
    refine (parts_any B w0 S HS.out C fnd known cb m HI.out e b o s sv kv lv _ HSh.out HAt.out hb HM.out HW.out FP.out hl0).mono ?_
    rintro e' w2 ⟨rfl,hw2⟩
    have d0 := (hw2.cell HW.out hb o).trans ((HAt0.out).trans (by rw [hk]; rfl : some (Value.int .i64 e.kind) = some (Value.int .i64 12)))
    have z2 := hw2.size
    have y2 : b < w2.heap.size := by omega
    have HW2 := hide hw2
    clear hw2 hk'
    go_wp2_with fail
    refine (operator_any 12 (by omega) _).mono ?_
    rintro e' w3 ⟨rfl,rfl⟩
    go_wp2_with fail
    refine (emit_w HW2.out _ 0 l1).mono ?_
    rintro e' w3 ⟨rfl,hw3⟩
    have HW3 := hide hw3
    clear hw3
    go_wp2
    go_end0
    exact ⟨rfl,by rw [HG.out]; exact HW3.out⟩
  · have HG := hide (show gen fnd (m + 1) e s = (gens (gen fnd m) e.parts s).emit (opOf 13) 0 by simp [gen,hk])
    have hk' : w.cell? ⟨b,o,none⟩ = some (.int .i64 13) := by rw [c0,hk]; rfl
    clear c0
    go_enter Tryz.func179,Tryz.ntmps179
    go_wp2_with fail
    refine (parts_any B w0 S HS.out C fnd known cb m HI.out e b o s sv kv lv _ HSh.out HAt.out hb HM.out HW.out FP.out hl0).mono ?_
    rintro e' w2 ⟨rfl,hw2⟩
    have d0 := (hw2.cell HW.out hb o).trans ((HAt0.out).trans (by rw [hk]; rfl : some (Value.int .i64 e.kind) = some (Value.int .i64 13)))
    have z2 := hw2.size
    have y2 : b < w2.heap.size := by omega
    have HW2 := hide hw2
    clear hw2 hk'
    go_wp2_with fail
    refine (operator_any 13 (by omega) _).mono ?_
    rintro e' w3 ⟨rfl,rfl⟩
    go_wp2_with fail
    refine (emit_w HW2.out _ 0 l1).mono ?_
    rintro e' w3 ⟨rfl,hw3⟩
    have HW3 := hide hw3
    clear hw3
    go_wp2
    go_end0
    exact ⟨rfl,by rw [HG.out]; exact HW3.out⟩
  · have HG := hide (show gen fnd (m + 1) e s = (gens (gen fnd m) e.parts s).emit (opOf 14) 0 by simp [gen,hk])
    have hk' : w.cell? ⟨b,o,none⟩ = some (.int .i64 14) := by rw [c0,hk]; rfl
    clear c0
    go_enter Tryz.func179,Tryz.ntmps179
    go_wp2_with fail
    refine (parts_any B w0 S HS.out C fnd known cb m HI.out e b o s sv kv lv _ HSh.out HAt.out hb HM.out HW.out FP.out hl0).mono ?_
    rintro e' w2 ⟨rfl,hw2⟩
    have d0 := (hw2.cell HW.out hb o).trans ((HAt0.out).trans (by rw [hk]; rfl : some (Value.int .i64 e.kind) = some (Value.int .i64 14)))
    have z2 := hw2.size
    have y2 : b < w2.heap.size := by omega
    have HW2 := hide hw2
    clear hw2 hk'
    go_wp2_with fail
    refine (operator_any 14 (by omega) _).mono ?_
    rintro e' w3 ⟨rfl,rfl⟩
    go_wp2_with fail
    refine (emit_w HW2.out _ 0 l1).mono ?_
    rintro e' w3 ⟨rfl,hw3⟩
    have HW3 := hide hw3
    clear hw3
    go_wp2
    go_end0
    exact ⟨rfl,by rw [HG.out]; exact HW3.out⟩
theorem expr_all (B : Cb) (w0 : World) (S : Nat → Prop) (hS : ∀ k,S k → k < B.lo) (C : CK) (fnd : Fnd) (known : List UInt8 → Prop) (hfnd : FindC B w0 C fnd known) (vb : Nat) (hc0 : C.c0 = .pointer (some ⟨vb,0,none⟩)) (cb : Nat) : ∀ m,ExprC B w0 S C fnd known cb m := by
  intro m
  induction m with
  | zero => exact expr_step B w0 S hS C fnd known hfnd vb hc0 cb 0 (fun k hk => by omega)
  | succ m ih => exact expr_step B w0 S hS C fnd known hfnd vb hc0 cb (m + 1) (fun k hk => by
      have e : m = k := (by omega)
      exact e ▸ ih)
end Go.Proofs.YtpmmjkiclngpmaaGreatDoor
namespace Go.Proofs.YtpmmjkiclngpmaaGreatDoor
open Go.RowKit
theorem info_typ : (Tryz.prog.info? 132).map (fun i => (i.zero,i.size,i.bytes)) = some (some (.int .i64 0),1,8) := by kernel_rfl
def typCells (l : List Nat) : List Value := l.map fun (t : Nat) => .int .i64 (t : Int)
theorem Cd.putParams {lo cb : Nat} {T : Nat → Prop} {C : CK} {s : CS} {sv kv lv : Value} {w w2 : World} (pv : Value) (h : Cd ⟨lo,fun k => T k ∨ pv.ownBlock = some k⟩ cb C s sv kv lv w) (hpt : ∀ k,pv.ownBlock = some k → lo ≤ k ∧ ¬ T k) (hiv : ∀ k,C.V.iv.ownBlock = some k → T k) (hg : w.grownBy w2 pv.ownBlock) (g c : Nat) (l : List Nat)
    (ho : w2.ownsRow lo 132 1 (.slice (some ⟨g,0,none⟩) l.length c) l.length (typCells l)) (hw : pv.ownBlock = some g ∨ w.heap.size ≤ g) :
    Cel ⟨lo,T⟩ w (w2.setCell ⟨cb,5,none⟩ (.slice (some ⟨g,0,none⟩) l.length c)) ∧ Cd ⟨lo,fun k => T k ∨ (Value.slice (some ⟨g,0,none⟩) l.length c).ownBlock = some k⟩ cb { C with c5 := .slice (some ⟨g,0,none⟩) l.length c } s sv kv lv (w2.setCell ⟨cb,5,none⟩ (.slice (some ⟨g,0,none⟩) l.length c)) ∧
      (w2.setCell ⟨cb,5,none⟩ (.slice (some ⟨g,0,none⟩) l.length c)).ownsRow lo 132 1 (.slice (some ⟨g,0,none⟩) l.length c) l.length (typCells l) ∧ lo ≤ g ∧ ¬ T g := by
  have hmb := h.lt
  have hlow := h.low
  simp only at hlow
  have htlt := h.tlt
  have hnm := h.nm
  simp only at htlt hnm
  have hgl : g < w2.heap.size := (owns_block ho g rfl).2
  have hsz := hg.size
  have hgT : lo ≤ g ∧ ¬ T g := by
    rcases hw with e | e
    · exact hpt g e
    · exact ⟨by omega,fun ht => by have := htlt g (Or.inl ht); omega⟩
  have hcg : cb ≠ g := by
    rcases hw with e | e
    · intro e'; exact hnm (Or.inr (by rw [e,e']))
    · omega
  have oth : ∀ (k : Nat),k < w.heap.size → pv.ownBlock ≠ some k → w2.heap[k]? = w.heap[k]? := fun k hk e => hg.block k hk (fun e' => e e'.symm)
  have old : ∀ (k : Nat),k < w.heap.size → pv.ownBlock ≠ some k → g ≠ k := fun k hk e e' => by
    rcases hw with e2 | e2
    · exact e (by rw [e2,e'])
    · omega
  have key : ∀ {e : TypeId} {size n : Nat} {v : Value} {xs : List Value},w.ownsRow lo e size v n xs → (∀ k,v.ownBlock = some k → ¬ (T k ∨ pv.ownBlock = some k)) → v.ownBlock ≠ some cb → (w2.setCell ⟨cb,5,none⟩ (.slice (some ⟨g,0,none⟩) l.length c)).ownsRow lo e size v n xs := fun hr h1 h2 =>
    owns_set_other (owr_keep hr fun k e l => oth k l (fun e' => h1 k e (Or.inr e'))) h2 _ _
  have nog : ∀ {e : TypeId} {size n : Nat} {v : Value} {xs : List Value},w.ownsRow lo e size v n xs → (∀ k,v.ownBlock = some k → ¬ (T k ∨ pv.ownBlock = some k)) → ∀ k,v.ownBlock = some k → ¬ (T k ∨ (Value.slice (some ⟨g,0,none⟩) l.length c).ownBlock = some k) := fun hr h1 k e e' =>
    e'.elim (fun e' => h1 k e (Or.inl e')) (fun e' => old k (owns_block hr k e).2 (fun e2 => h1 k e (Or.inr e2)) (by simpa [Value.ownBlock] using e'))
  refine ⟨⟨?_,fun k hk => ?_⟩,⟨hlow,?_,key h.sco h.t1 h.n1,key h.cod h.t2 h.n2,key h.cal h.t3 h.n3,h.n1,h.n2,h.n3,h.d1,h.d2,h.d3,fun k hk => ?_,?_,nog h.sco h.t1,nog h.cod h.t2,nog h.cal h.t3,?_⟩,owns_set_other ho (by intro e; simp only [Value.ownBlock,Option.some.injEq] at e; exact hcg e.symm) _ _,hgT.1,hgT.2⟩
  · have hbl : Below lo w w2 := ⟨hg.os,hg.tape,hg.output,hg.size,fun k hk => hg.block k (by omega) (fun e => by have := (hpt k e.symm).1; omega)⟩
    exact hbl.setCell (p := ⟨cb,5,none⟩) hlow _
  · have hk' : T k := hk
    exact (Below.heap_setCell w2 ⟨cb,5,none⟩ _ k (fun (e : k = cb) => hnm (Or.inl (by rw [← e]; exact hk')))).trans (oth k (htlt k (Or.inl hk')) (fun e => (hpt k e).2 hk'))
  · rw [block_setCell ((oth _ hmb (fun e => hnm (Or.inr e))).trans h.blk)]; rfl
  · have hk' : T k ∨ (Value.slice (some ⟨g,0,none⟩) l.length c).ownBlock = some k := hk
    have : k < w2.heap.size := hk'.elim (fun e => by have := htlt k (Or.inl e); omega) (fun e => by simp only [Value.ownBlock,Option.some.injEq] at e; omega)
    simpa [World.setCell] using this
  · intro e
    have e' : T cb ∨ (Value.slice (some ⟨g,0,none⟩) l.length c).ownBlock = some cb := e
    exact e'.elim (fun e => hnm (Or.inl e)) (fun e => by simp only [Value.ownBlock,Option.some.injEq] at e; exact hcg e.symm)
  · obtain ⟨uv,hu,hd⟩ := h.vw
    have hnp : ∀ k,VHas C.V uv k → pv.ownBlock ≠ some k := fun k hk e => by
      rcases hk with hk | hk | hk
      · exact (hd k (Or.inl hk)).2.2.2.2 (Or.inl hk) (Or.inr e)
      · exact (hpt k e).2 (hiv k hk)
      · exact (hd k (Or.inr (Or.inr hk))).2.2.2.2 (Or.inr hk) (Or.inr e)
    refine ⟨uv,(hu.keep (fun k hk => oth k (hu.has hk).2 (hnp k hk))).set (fun k hk => (hd k hk).1) _ _,fun k hk => ?_⟩
    obtain ⟨a,b,c',d,f⟩ := hd k hk
    exact ⟨a,b,c',d,fun e e' => e'.elim (fun e' => f e (Or.inl e')) (fun e' => old k (hu.has hk).2 (hnp k hk) (by simpa [Value.ownBlock] using e'))⟩
theorem Cel.mono {lo : Nat} {T T' : Nat → Prop} {w w' : World} (h : Cel ⟨lo,T⟩ w w') (hT : ∀ k,T' k → T k) : Cel ⟨lo,T'⟩ w w' := ⟨h.bel,fun k hk => h.tab k (hT k hk)⟩
end Go.Proofs.YtpmmjkiclngpmaaGreatDoor
