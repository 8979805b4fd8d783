/- YtpmmjkiclngpmaaGreatDoorB27 -/
import Derived.Test.YtpmmjkiclngpmaaGreatDoorB24
import Derived.Test.YtpmmjkiclngpmaaGreatDoorB06
set_option maxRecDepth 100000
set_option linter.unusedSimpArgs false
set_option linter.unusedVariables false
set_option maxHeartbeats 12800000
namespace Go.Proofs.YtpmmjkiclngpmaaGreatDoor
open Go.RowKit
def impK (p : Option Addr) (place : Nat) (s : KS) : KS := if p = none then s.tell 6 place else s
def impsK : List (Imp × Option Addr) → List (List UInt8) → KS → KS
  | [],_,s => s
  | x :: r,L,s => impsK r (x.1.name :: L) (impK x.2 x.1.place (onceK L x.1.name x.1.place s))
theorem impsK_drop (l : List (Imp × Option Addr)) (j : Nat) (hj : j < l.length) (L : List (List UInt8)) (s : KS) : impsK (l.drop j) L s = impsK (l.drop (j + 1)) (l[j].1.name :: L) (impK l[j].2 l[j].1.place (onceK L l[j].1.name l[j].1.place s)) := by
  rw [List.drop_eq_getElem_cons hj]; rfl
theorem Kk.import {B kb : Nat} {vb : VK} {s : KS} {sv : Value} {w : World} (h : Kk B kb vb s sv w) {j : Nat} (hj : j < vb.pts.length) :
    ∃ io ic ib,io = some ⟨ib,0,none⟩ ∧ vb.pts.length ≤ ic ∧ w.cell? ⟨vb.b,2,none⟩ = some (.slice io vb.pts.length ic) ∧ w.cell? ⟨ib,j,none⟩ = some (.pointer vb.pts[j]) ∧ vb.b < w.heap.size ∧ ib < w.heap.size := by
  obtain ⟨uv,hv,hd⟩ := h.vw
  obtain ⟨io,ic,h1,h2⟩ := hv.pts
  obtain ⟨ib,h3,h4,h5,h6⟩ := h2 (by omega)
  exact ⟨io,ic,ib,h3,h5,by rw [← h1]; exact hv.field.2.2.1,h6 j hj,hv.lt,h4⟩
theorem checkImports_any (m : Nat) (S : Nat → Prop) (B : Nat) (w0 : World) (kb : Nat) (vb : VK) (md : Mod) (hM : ModAt m S B w0 vb.mb md) (pts : List (Option Addr)) (hpv : vb.pts = pts) (hpl : pts.length = md.imports.length) (hB : B ≤ w0.heap.size)
    (s : KS) (w1 w : World) (h : Knows B kb vb w1 s w) (hw : Below B w0 w1) (hn : ∀ f ∈ md.imports,f.name.length ≤ 100000) (hl : md.imports.length ≤ 100000) :
    Calls Tryz.prog 113 #[.pointer (some ⟨kb,0,none⟩)] w fun e' w' => e' = .returned (.tuple #[]) ∧ Knows B kb vb w1 (impsK (md.imports.zip pts) [] s) w' := by
  obtain ⟨fo,fc,a1,hfun⟩ := hM.imps
  have hmb := hM.lt
  have c2 := (h.cell hw hmb 0).trans a1
  have z := h.size
  have y2 : vb.mb < w.heap.size := by omega
  obtain ⟨hbl,sv,hk⟩ := h
  obtain ⟨f0,f1,f2,f3⟩ := hk.field
  obtain ⟨c1,_,y1⟩ := hk.view
  have HPv := hide hpv
  have h1 := hk.lt
  have h2 := hk.low
  have HK := hide hk
  have HB := hide hbl
  have HW := hide hw
  have HF := hide hfun
  have HN := hide hn
  have HKB := hide (owns_block hk.sco)
  have HLen := hide (show (md.imports.zip pts).length = md.imports.length by rw [List.length_zip]; omega)
  clear hk hbl hw hfun hM a1 hn hpv
  have hmk := make_map
  have hnk : w.heap.size ≠ kb := by omega
  have hns : sv.ownBlock ≠ some w.heap.size := fun e => by have := (HKB.out _ e).2; omega
  go_enter Tryz.func113,Tryz.ntmps113
  go_wp2
  go_loopg [17] md.imports.length (fun n i wr => ∃ (j : Nat) (t : KS) (L : List (List UInt8)),n + j = md.imports.length ∧ i = .int .i64 j ∧ Hid (impsK (md.imports.zip pts) [] s = impsK ((md.imports.zip pts).drop j) L t) ∧ L.length = j ∧ Hid (Kk B kb vb t sv wr) ∧ Hid (Cnt wr w.heap.size L) ∧ Hid (Below B w wr) ∧ w.heap.size < wr.heap.size)
  case atStart => exact ⟨0,s,[],by omega,rfl,rfl,rfl,HK.out.alloc _,Cnt.new w,(Below.refl _ _).alloc z _,by simp⟩
  obtain ⟨j,t,L,hj,rfl,HR,hLl,HKr,HC,HBr,hsr⟩ := hrel
  by_cases hlt : j < md.imports.length
  · obtain ⟨g,rfl,hgB,hfc,hat⟩ := HF.out (by omega)
    obtain ⟨b0,b1⟩ := hat j hlt
    have hbw := (HW.out.trans HB.out).trans HBr.out
    have d0 := (below_cell hbw hgB _).trans b0
    have d1 := (below_cell hbw hgB _).trans b1
    have hg7 : g < wr.heap.size := by omega
    have HD := hide (impsK_drop (md.imports.zip pts) j (by rw [HLen.out]; exact hlt) L t)
    have HZ := hide (show (md.imports.zip pts)[j]'(by rw [HLen.out]; exact hlt) = (md.imports[j],pts[j]'(by omega)) from List.getElem_zip ..)
    have hnl := HN.out md.imports[j] (List.getElem_mem hlt)
    generalize hf : md.imports[j] = f at *
    generalize hp : pts[j]'(by omega) = p at *
    have HFj := hide hf
    have HPj := hide hp
    clear hf hat b0 b1 c1 c2 f0 f1 f2 f3
    go_wp2_with fail
    refine (once_any B kb vb w.heap.size L t sv _ (by exact HKr.out.alloc _) (by exact HC.out.keep (Below.heap_alloc _ _ _ hsr)) hnk z hns f.name hnl (by omega) f.place).mono ?_
    rintro e' w3 ⟨rfl,hk3,hc3,hbl3,hb3⟩
    have hs3 := hbl3.size
    have HBl3 := hide (((Below.refl B wr).alloc (by omega) _).trans hbl3)
    have HK3 := hide hk3
    have HC3 := hide hc3
    have hs3' : wr.heap.size < w3.heap.size := by simp at hs3; omega
    have hbw3 := hbw.trans HBl3.out
    obtain ⟨f0,f1,f2,f3⟩ := hk3.field
    have h3l := hk3.lt
    obtain ⟨vo,vc,ib,q2,q3,e2,e3',y3,y4⟩ := hk3.import (j := j) (by rw [HPv.out]; omega)
    have e3 : w3.cell? ⟨ib,j,none⟩ = some (.pointer p) := by rw [e3']; simp only [HPv.out,hp]
    clear e3'
    rw [HPv.out,hpl] at q3 e2
    subst q2
    have e4 : w3.cell? ⟨wr.heap.size,1,none⟩ = some (.int .i64 f.place) := by
      have := hb3 wr.heap.size (by simp) (by have := HKr.out.lt; omega) (by omega)
      rw [cell_block (this.trans (block_new wr _))]; rfl
    clear hp hk3 hc3 hb3 hs3 hbl3 d0 d1 hbw hbw3
    rcases p with _ | pa
    · have HI := hide (show impK none f.place (onceK L f.name f.place t) = (onceK L f.name f.place t).tell 6 f.place from rfl)
      go_wp2_with fail
      refine (tell_any B kb vb _ sv _ HK3.out 6 f.place).mono ?_
      rintro e' w4 ⟨rfl,hb4,hk4⟩
      have HK4 := hide hk4
      have HC4 := hide (HC3.out.keep (hb4.block _ HC3.out.lt hnk))
      have HBl4 := hide (HBl3.out.trans (but_below hb4 HK3.out.lt HK3.out.low))
      have hs4 := hb4.size
      clear hb4 hk4
      go_wp2
      go_roundg (gk - 1)
      case measure => omega
      case rel =>
        refine ⟨j + 1,_,f.name :: L,by omega,by first | rfl | go_num,?_,by simp [hLl],HK4.out,HC4.out,HBr.out.trans HBl4.out,by omega⟩
        show impsK _ _ _ = _
        rw [HR.out,HD.out,HZ.out]
        exact congrArg _ HI.out
    · have HI := hide (show impK (some pa) f.place (onceK L f.name f.place t) = onceK L f.name f.place t from rfl)
      go_wp2
      go_roundg (gk - 1)
      case measure => omega
      case rel =>
        refine ⟨j + 1,_,f.name :: L,by omega,by first | rfl | go_num,?_,by simp [hLl],HK3.out,HC3.out,HBr.out.trans HBl3.out,by omega⟩
        show impsK _ _ _ = _
        rw [HR.out,HD.out,HZ.out]
        exact congrArg _ HI.out
  have hje : j = md.imports.length := by omega
  have HX := hide (show impsK (md.imports.zip pts) [] s = t by rw [HR.out,hje,List.drop_of_length_le (by rw [HLen.out]; exact Nat.le_refl _)]; rfl)
  have hji : ¬ (j : Int) < (md.imports.length : Int) := by omega
  go_wp2
  go_end0
  exact ⟨rfl,by rw [HX.out]; exact ⟨HB.out.trans HBr.out,sv,HKr.out⟩⟩
end Go.Proofs.YtpmmjkiclngpmaaGreatDoor
namespace Go.Proofs.YtpmmjkiclngpmaaGreatDoor
open Go.RowKit
def addV (s : KS) (x : Prm) : KS := { s with scope := s.scope ++ [(x.name,x.typ)] }
def prmsK : List Prm → List (List UInt8) → KS → KS
  | [],_,s => s
  | x :: r,L,s => prmsK r (x.name :: L) (addV (onceK L x.name x.place s) x)
theorem prmsK_drop (l : List Prm) (j : Nat) (hj : j < l.length) (L : List (List UInt8)) (s : KS) : prmsK (l.drop j) L s = prmsK (l.drop (j + 1)) (l[j].name :: L) (addV (onceK L l[j].name l[j].place s) l[j]) := by
  rw [List.drop_eq_getElem_cons hj]; rfl
theorem onceK_lk (L : List (List UInt8)) (n : List UInt8) (p : Nat) (s : KS) : (onceK L n p s).lk = s.lk := by
  unfold onceK; split
  · exact tell_lk _ _ _
  rfl
theorem prmsK_lk (l : List Prm) (L : List (List UInt8)) (s : KS) : (prmsK l L s).lk = s.lk := by
  induction l generalizing L s with
  | nil => rfl
  | cons x r ih =>
    show (prmsK r _ _).lk = _
    rw [ih]
    exact onceK_lk _ _ _ _
def funK (look : Look) (m : Nat) (f : Fun) (s : KS) : KS := mustK (tyN look (m + 1)) f.result f.body (prmsK f.params [] { s with scope := [] })
theorem checkFunction_any (m : Nat) (S : Nat → Prop) (B : Nat) (hS : ∀ k,S k → k < B) (w0 : World) (kb : Nat) (vb : VK) (look : Look) (hT : TypeC B w0 S look kb vb m)
    (g o : Nat) (f : Fun) (hF : FunAt m S B w0 g o f) (hg : g < B) (hsh : Shp (fun _ => True) (m + 1) f.body) (s : KS) (w1 w : World) (h : Knows B kb vb w1 s w) (hw : Below B w0 w1) (hB : B ≤ w0.heap.size) (hn : ∀ x ∈ f.params,x.name.length ≤ 100000) (hl : f.params.length ≤ 100000) (hf : f.params.length + sz (m + 1) f.body ≤ 1000000) (hlk : s.lk.length + 1000 * sz (m + 1) f.body ≤ 4000000000) :
    Calls Tryz.prog 115 #[.pointer (some ⟨kb,0,none⟩),.pointer (some ⟨g,o,none⟩)] w fun e' w' => e' = .returned (.tuple #[]) ∧ Knows B kb vb w1 (funK look m f s) w' := by
  obtain ⟨pv,bv,b0,b1,b2,b3,b4,b5,b6,b7,b8,b9,⟨po,pc,hpv,hpr⟩,hpa⟩ := hF
  subst hpv
  have HBody := hide (show ExP m S w0 g (o + 5) f.body from ⟨⟨bv,b5,b7,b8,b9,hpa⟩,b6⟩)
  have HRes := hide b4
  have HPr := hide hpr
  have HT := hide hT
  have HSh := hide hsh
  have c3 := (h.cell hw hg (o + 3)).trans b3
  have z := h.size
  have y1 : g < w.heap.size := by omega
  obtain ⟨hbl,sv0,hk⟩ := h
  obtain ⟨f0,f1,f2,f3⟩ := hk.field
  have g0 := free_block hk.blk
  have h1 := hk.lt
  have h2 := hk.low
  have HP := hide (hk.putScope (grown_refl w _) (.slice none 0 0) [] (World.ownsRow_nil _ _ _ _) (fun k e => by simp [Value.ownBlock] at e))
  have HB := hide hbl
  have HW := hide hw
  have HN := hide hn
  obtain ⟨i0,hi,hz0,hz1,hz2⟩ := info_parts info_var
  clear hk hbl hw hpr hpa b0 b1 b2 b3 b4 b5 b6 b7 b8 b9 hn hT hsh
  have hmk := make_map
  go_enter Tryz.func115,Tryz.ntmps115
  go_wp2_with fail
  have hnk : w.heap.size ≠ kb := by omega
  have hsz0 : (w.setCell ⟨kb,1,none⟩ (.slice none 0 0)).heap.size = w.heap.size := by simp [World.setCell]
  have HCn := hide (Cnt.new (w.setCell ⟨kb,1,none⟩ (.slice none 0 0)))
  rw [hsz0] at HCn
  clear f0 f1 f2 f3 g0 c3
  go_loopg [16] f.params.length (fun n i wr => ∃ (j : Nat) (t : KS) (L : List (List UInt8)) (sv : Value),n + j = f.params.length ∧ i = .int .i64 j ∧ Hid (prmsK f.params [] { s with scope := [] } = prmsK (f.params.drop j) L t) ∧ L.length = j ∧ t.scope.length = j ∧ Hid (Kk B kb vb t sv wr) ∧ Hid (Cnt wr w.heap.size L) ∧ Hid (sv.ownBlock ≠ some w.heap.size) ∧ Hid (Below B w wr) ∧ w.heap.size < wr.heap.size)
  case atStart => exact ⟨0,{ s with scope := [] },[],.slice none 0 0,by omega,rfl,rfl,rfl,rfl,HP.out.2.alloc _,HCn.out,by show Value.ownBlock _ ≠ _; simp [Value.ownBlock],HP.out.1.alloc (by rw [hsz0]; exact z) _,by simp [World.setCell]⟩
  obtain ⟨j,t,L,sv,hj,rfl,HR,hLl,htl,HKr,HC,HSv,HBr,hsr⟩ := hrel
  have hbw := (HW.out.trans HB.out).trans HBr.out
  by_cases hlt : j < f.params.length
  · obtain ⟨gb,rfl,hgb,hpc,hat⟩ := HPr.out (by omega)
    obtain ⟨q0,q1,q2⟩ := hat j hlt
    have d0 := (below_cell hbw hgb _).trans q0
    have d1 := (below_cell hbw hgb _).trans q1
    have d2 := (below_cell hbw hgb _).trans q2
    have hg7 : gb < wr.heap.size := by omega
    have HD := hide (prmsK_drop f.params j hlt L t)
    have hnl := HN.out f.params[j] (List.getElem_mem hlt)
    generalize hx : f.params[j] = x at *
    clear hx hat q0 q1 q2
    go_wp2_with fail
    refine (once_any B kb vb w.heap.size L t sv _ (by exact HKr.out.alloc _) (by exact HC.out.keep (Below.heap_alloc _ _ _ hsr)) hnk z HSv.out x.name hnl (by omega) x.place).mono ?_
    rintro e' w3 ⟨rfl,hk3,hc3,hbl3,hb3⟩
    have hs3 := hbl3.size
    have HBl3 := hide (((Below.refl B wr).alloc (by omega) _).trans hbl3)
    have HC3 := hide hc3
    have hs3' : wr.heap.size < w3.heap.size := by simp at hs3; omega
    have hpb := (hb3 wr.heap.size (by simp) (by have := HKr.out.lt; omega) (by omega)).trans (block_new wr _)
    have p0 := cell_block hpb 0
    have p2 := cell_block hpb 2
    have ps := lt_of_some hpb
    simp at p0 p2
    have hol := onceK_scope L x.name x.place t
    generalize hu : onceK L x.name x.place t = u at *
    have HU := hide hu
    have hul : u.scope.length = j := by rw [hol]; exact htl
    obtain ⟨qo,qc,rfl⟩ := owns_shape' hk3.sco
    have HSj := hide (show (Value.slice qo j qc).ownBlock ≠ some w.heap.size by have := HSv.out; rw [hul] at this; exact this)
    rw [hul] at hk3
    obtain ⟨f0,f1,f2,f3⟩ := hk3.field
    have g0 := free_block hk3.blk
    have h3l := hk3.lt
    have HK3 := hide hk3
    have HSc := hide (show w3.ownsRow B 303 2 (.slice qo j qc) j (varCells u.scope) by have := hk3.sco; rw [hul] at this; exact this)
    have b1 : j + 1 ≤ maxLen := by unfold maxLen; omega
    have b2 : (j + 1) * 24 ≤ 140737488355328 := by omega
    have hone : ∀ v ∈ [Value.string ⟨x.name.toArray⟩,Value.int .i64 x.typ],v.oneCell' = true := by
      intro v hv
      rcases List.mem_cons.1 hv with rfl | hv
      · rfl
      · rcases List.mem_cons.1 hv with rfl | hv
        · rfl
        · cases hv
    have HOne := hide hone
    have hBd : B ≤ (w3.drew.alloc (.cells #[.string ⟨x.name.toArray⟩,.int .i64 x.typ] 303)).heap.size := by simp; omega
    have HBd := hide hBd
    clear hone hBd hk3 hc3 hb3 hs3 hbl3 d0 d1 d2 hbw hpb hu hol
    go_wp2_with fail
    go_region_law (refine step_app_where rfl (.tmp 31) (.tmp 37) 222 rfl B 303 i0 (.agg #[.string ⟨#[]⟩,.int .i64 0]) 2 24 Tryz.underlying222 hi hz0 hz1 hz2 rfl (by decide) (.slice qo j qc) j (varCells u.scope) ?_ ?_ ⟨w3.heap.size,0,none⟩ 1 1 [.string ⟨x.name.toArray⟩,.int .i64 x.typ] ?_ rfl ?_ HOne.out b1 b2 ?_ ?_; (simp [Act.eval,Act.put]); (exact (World.ownsRow.drew HSc.out).alloc _); (simp [Act.eval,Act.put]); (exact (new2_cells w3.drew _ _ _)); (exact HBd.out); intro v' w4 hown hgrow hwhere; obtain ⟨vo,vc,rfl⟩ := owns_shape' hown; have HG := hide (grown_drew1 (grown_alloc hgrow)); have HO := hide hown; have HWh := hide hwhere; have hmk4 := (HG.out.block kb h3l (fun e => HK3.out.n1 e.symm)).trans HK3.out.blk; have k1 := cell_block hmk4 1; have kf := free_block hmk4; have kl := lt_of_some hmk4; simp at k1; clear hown hgrow hwhere hmk4)
    all_goals
      have HQ := hide (HK3.out.putScope HG.out (.slice vo (j + 1) vc) (u.scope ++ [(x.name,x.typ)]) (by rw [varCells_snoc,List.length_append,hul]; exact HO.out) (fun q e => (HWh.out q e).imp (fun h => by exact h) (fun h => by have h' : w3.heap.size + 1 ≤ q := (by simpa using h); omega)))
      have HC4 := hide (show Cnt (w4.setCell ⟨kb,1,none⟩ (.slice vo (j + 1) vc)) w.heap.size (x.name :: L) from HC3.out.keep ((Below.heap_setCell _ _ _ _ hnk).trans (HG.out.block _ HC3.out.lt (fun e => HSj.out e.symm))))
      have HS4 := hide (show (Value.slice vo (j + 1) vc).ownBlock ≠ some w.heap.size from fun e => by
        rcases HWh.out _ e with h | h
        · exact HSj.out h
        · have h' : w3.heap.size + 1 ≤ w.heap.size := (by simpa using h); omega)
      have hs4 := HG.out.size
      have hs5 : (w4.setCell ⟨kb,1,none⟩ (.slice vo (j + 1) vc)).heap.size = w4.heap.size := by simp [World.setCell]
      go_wp2
      go_roundg (gk - 1)
      case measure => omega
      case rel =>
        refine ⟨j + 1,addV u x,x.name :: L,_,by omega,by first | rfl | go_num,?_,by simp [hLl],by simp [addV,hul],HQ.out.2,HC4.out,HS4.out,HBr.out.trans (HBl3.out.trans HQ.out.1),by rw [hs5]; omega⟩
        show prmsK _ _ _ = _
        rw [HR.out,HD.out]
        first | done | rw [HU.out]
  have hje : j = f.params.length := by omega
  have HX := hide (show prmsK f.params [] { s with scope := [] } = t by rw [HR.out,hje,List.drop_length]; rfl)
  have HV := hide (show funK look m f s = mustK (tyN look (m + 1)) f.result f.body t by unfold funK; rw [HX.out])
  have hji : ¬ (j : Int) < (f.params.length : Int) := by omega
  have HKn := hide (show Knows B kb vb w1 t wr from ⟨HB.out.trans HBr.out,sv,HKr.out⟩)
  have r4 := (below_cell hbw hg (o + 4)).trans HRes.out
  have hgr : g < wr.heap.size := by omega
  have hft : KFit t (sz (m + 1) f.body) := ⟨by omega,by have := prmsK_lk f.params [] { s with scope := [] }; rw [HX.out] at this; rw [this]; exact hlk⟩
  clear hbw
  go_wp2_with fail
  go_region_with (go_at_call 177; go_must (refine (must_any HT.out f.body g (o + 5) t w1 _ HSh.out HBody.out hg (by exact knows_drew HKn.out) HW.out hft f.result).mono ?_; rintro e' w8 ⟨rfl,hk8⟩; have HK8 := hide hk8; clear hk8))
  all_goals
    go_wp2
    go_end0
    exact ⟨rfl,by rw [HV.out]; exact HK8.out⟩
end Go.Proofs.YtpmmjkiclngpmaaGreatDoor
namespace Go.Proofs.YtpmmjkiclngpmaaGreatDoor
open Go.RowKit
def funsK (look : Look) (m : Nat) : List Fun → KS → KS
  | [],s => s
  | f :: r,s => funsK look m r (funK look m f s)
theorem funsK_drop (look : Look) (m : Nat) (l : List Fun) (j : Nat) (hj : j < l.length) (s : KS) : funsK look m (l.drop j) s = funsK look m (l.drop (j + 1)) (funK look m l[j] s) := by
  rw [List.drop_eq_getElem_cons hj]; rfl
def modK (look : Look) (m : Nat) (md : Mod) (pts : List (Option Addr)) : KS :=
  funsK look m md.funs (oncesK (md.funs.map fun f => (f.name,f.place)) [] (impsK (md.imports.zip pts) [] ⟨[],0,0,[]⟩))
theorem impsK_lk (l : List (Imp × Option Addr)) (L : List (List UInt8)) (s : KS) : (impsK l L s).lk = s.lk := by
  induction l generalizing L s with
  | nil => rfl
  | cons x r ih =>
    show (impsK r _ _).lk = _
    rw [ih]
    unfold impK; split
    · rw [tell_lk,onceK_lk]
    · rw [onceK_lk]
theorem oncesK_lk (l : List (List UInt8 × Nat)) (L : List (List UInt8)) (s : KS) : (oncesK l L s).lk = s.lk := by
  induction l generalizing L s with
  | nil => rfl
  | cons x r ih =>
    show (oncesK r _ _).lk = _
    rw [ih,onceK_lk]
theorem funK_lk (look : Look) (m : Nat) (f : Fun) (s : KS) : (funK look m f s).lk.length ≤ s.lk.length + 1000 * sz (m + 1) f.body := by
  unfold funK
  have := mustK_lk (g := tyN look (m + 1)) (want := f.result) (e := f.body) (s := prmsK f.params [] { s with scope := [] }) (tyN_lk look (m + 1) f.body)
  rw [prmsK_lk] at this
  exact this
def szF (m : Nat) (l : List Fun) : Nat := (l.map fun f => sz (m + 1) f.body).sum
theorem szF_drop (m : Nat) (l : List Fun) (j : Nat) (hj : j < l.length) : szF m (l.drop j) = sz (m + 1) l[j].body + szF m (l.drop (j + 1)) := by
  unfold szF
  rw [List.drop_eq_getElem_cons hj,List.map_cons,List.sum_cons]
structure ModOk (m : Nat) (md : Mod) : Prop where
  fl : md.funs.length ≤ 100000
  il : md.imports.length ≤ 100000
  fn : ∀ f ∈ md.funs,f.name.length ≤ 100000
  im : ∀ f ∈ md.imports,f.name.length ≤ 100000
  sh : ∀ f ∈ md.funs,Shp (fun _ => True) (m + 1) f.body
  pn : ∀ f ∈ md.funs,∀ x ∈ f.params,x.name.length ≤ 100000
  pl : ∀ f ∈ md.funs,f.params.length ≤ 100000
  sz : ∀ f ∈ md.funs,f.params.length + sz (m + 1) f.body ≤ 1000000
  all : szF m md.funs ≤ 1000000
theorem checkModule_any (m : Nat) (S : Nat → Prop) (B : Nat) (hS : ∀ k,S k → k < B) (w0 : World) (vb : VK) (md : Mod) (hM : ModAt m S B w0 vb.mb md) (uv0 : Value) (hvw : Vw B vb [] uv0 w0) (hB : B ≤ w0.heap.size) (hpl : vb.pts.length = md.imports.length)
    (look : Look) (hfnd : FindK B w0 vb look) (hok : ModOk m md) :
    Calls Tryz.prog 76 #[.pointer (some ⟨vb.b,0,none⟩)] w0 fun e' w' => e' = .returned (.tuple #[.int .i64 (modK look m md vb.pts).code,.int .i64 (modK look m md vb.pts).place]) ∧ Below B w0 w' ∧ ∃ uv',Vw B vb (modK look m md vb.pts).lk uv' w' := by
  have HT := hide (type_all B w0 S hS look w0.heap.size vb hfnd m)
  have HM := hide hM
  have HOk := hide hok
  obtain ⟨fo,fc,a1,hfun⟩ := hM.funs
  have hmb := hM.lt
  have HFun := hide hfun
  have HA1 := hide a1
  have hl := hok.fl
  have hall := hok.all
  have HKs := hide (show Knows B w0.heap.size vb w0 ⟨[],0,0,[]⟩ (w0.alloc (.cells #[.pointer (some ⟨vb.b,0,none⟩),.slice none 0 0,.int .i64 0,.int .i64 0] 224)) from
    ⟨(Below.refl _ _).alloc hB _,.slice none 0 0,⟨hB,block_new _ _,World.ownsRow_nil _ _ _ _,by simp [Value.ownBlock],uv0,hvw.alloc _,fun k hk => ⟨by have := (hvw.has hk).2; omega,by simp [Value.ownBlock]⟩⟩⟩)
  clear hM hok a1 hfun hvw
  go_enter Tryz.func76,Tryz.ntmps76
  go_wp2_with fail
  refine (checkImports_any m S B w0 w0.heap.size vb md HM.out vb.pts rfl hpl hB ⟨[],0,0,[]⟩ w0 _ HKs.out (Below.refl _ _) HOk.out.im HOk.out.il).mono ?_
  rintro e' w2 ⟨rfl,hk2⟩
  have HK2 := hide hk2
  clear hk2
  go_wp2_with fail
  refine (checkNames_any m S B w0 w0.heap.size vb md HM.out hB _ w0 _ HK2.out (Below.refl _ _) HOk.out.fn HOk.out.fl).mono ?_
  rintro e' w3 ⟨rfl,hk3⟩
  obtain ⟨c1,_,y1⟩ := hk3.2.choose_spec.view
  have c2 := (hk3.cell (Below.refl _ w0) hmb 1).trans HA1.out
  have z3 := hk3.size
  have y2 : vb.mb < w3.heap.size := by omega
  have HK3 := hide hk3
  clear hk3
  have hlk3 : (oncesK (md.funs.map fun f => (f.name,f.place)) [] (impsK (md.imports.zip vb.pts) [] ⟨[],0,0,[]⟩)).lk = [] := by rw [oncesK_lk,impsK_lk]
  generalize hs3 : oncesK (md.funs.map fun f => (f.name,f.place)) [] (impsK (md.imports.zip vb.pts) [] ⟨[],0,0,[]⟩) = s3 at *
  have HS3 := hide hs3
  have HL3 := hide hlk3
  clear hs3 hlk3
  go_wp2
  go_loopg [21] md.funs.length (fun n i wr => ∃ (j : Nat) (t : KS),n + j = md.funs.length ∧ i = .int .i64 j ∧ Hid (funsK look m md.funs s3 = funsK look m (md.funs.drop j) t) ∧ t.lk.length + 1000 * szF m (md.funs.drop j) ≤ 4000000000 ∧ Hid (Knows B w0.heap.size vb w0 t wr))
  case atStart => exact ⟨0,s3,by omega,rfl,rfl,by rw [HL3.out,List.drop_zero]; simp only [List.length_nil]; omega,HK3.out⟩
  obtain ⟨j,t,hj,rfl,HR,hlk,HKr⟩ := hrel
  obtain ⟨d1,_,yr1⟩ := HKr.out.2.choose_spec.view
  have d2 := (HKr.out.cell (Below.refl _ w0) hmb 1).trans HA1.out
  have zr := HKr.out.size
  have yr2 : vb.mb < wr.heap.size := by omega
  by_cases hlt : j < md.funs.length
  · obtain ⟨g,rfl,hgB,hfc,hat⟩ := HFun.out (by omega)
    have hmem := List.getElem_mem hlt
    have HD := hide (funsK_drop look m md.funs j hlt t)
    have hsd := szF_drop m md.funs j hlt
    have hk1 : t.lk.length + 1000 * sz (m + 1) md.funs[j].body ≤ 4000000000 := by omega
    have HNx := hide (show (funK look m md.funs[j] t).lk.length + 1000 * szF m (md.funs.drop (j + 1)) ≤ 4000000000 by have := funK_lk look m md.funs[j] t; omega)
    have HAt := hide (hat j hlt)
    have hg7 : g < wr.heap.size := by omega
    have HM2 := hide hmem
    clear hat hmem c1 c2 hsd hlk
    go_wp2_with fail
    refine (checkFunction_any m S B hS w0 w0.heap.size vb look HT.out g (j * 10) md.funs[j] HAt.out hgB (HOk.out.sh _ HM2.out) t w0 _ HKr.out (Below.refl _ _) hB (HOk.out.pn _ HM2.out) (HOk.out.pl _ HM2.out) (HOk.out.sz _ HM2.out) hk1).mono ?_
    rintro e' w4 ⟨rfl,hk4⟩
    have HK4 := hide hk4
    clear hk4
    go_wp2
    go_roundg (gk - 1)
    case measure => omega
    case rel =>
      refine ⟨j + 1,funK look m md.funs[j] t,by omega,by first | rfl | go_num,?_,HNx.out,HK4.out⟩
      show funsK _ _ _ _ = _
      rw [HR.out,HD.out]
  have hje : j = md.funs.length := by omega
  have HX := hide (show modK look m md vb.pts = t by unfold modK; rw [HS3.out,HR.out,hje,List.drop_length]; rfl)
  have hji : ¬ (j : Int) < (md.funs.length : Int) := by omega
  obtain ⟨hbr,svr,hkr⟩ := HKr.out
  obtain ⟨f0,f1,f2,f3⟩ := hkr.field
  have hkl := hkr.lt
  have HBr := hide hbr
  have HVr := hide hkr.vw
  clear hbr hkr c1 c2 hlk
  go_wp2_with fail
  go_quiet (fail)
  go_wp2
  go_ret2
  refine ⟨by rw [HX.out]; rfl,HBr.out.trans ((drewN_below wr nq).mono zr),?_⟩
  obtain ⟨uv,hu,_⟩ := HVr.out
  exact ⟨uv,by rw [HX.out]; exact hu.below (drewN_below wr nq)⟩
end Go.Proofs.YtpmmjkiclngpmaaGreatDoor
namespace Go.Proofs.YtpmmjkiclngpmaaGreatDoor
open Go.RowKit
theorem flat_at {α : Type} (c : α → List Value) (n : Nat) (hc : ∀ x,(c x).length = n) (l : List α) (j : Nat) (hj : j < l.length) (i : Nat) (hi : i < n) : (l.flatMap c)[j * n + i]? = (c l[j])[i]? := by
  induction l generalizing j with
  | nil => simp at hj
  | cons x r ih =>
    rw [List.flatMap_cons]
    cases j with
    | zero =>
      rw [Nat.zero_mul,Nat.zero_add,List.getElem?_append_left (by rw [hc]; exact hi)]
      rfl
    | succ j =>
      rw [List.getElem?_append_right (by rw [hc,Nat.add_mul]; omega),hc,show (j + 1) * n + i - n = j * n + i by rw [Nat.add_mul]; omega,ih j (by simpa using hj)]
      rfl
theorem owns_at {w : World} {base : Nat} {e : TypeId} {size : Nat} {v : Value} {n : Nat} {xs : List Value} (h : w.ownsRow base e size v n xs) :
    ∃ o c,v = .slice o n c ∧ (0 < n → ∃ g,o = some ⟨g,0,none⟩ ∧ base ≤ g ∧ g < w.heap.size ∧ n ≤ c ∧ ∀ i,i < n * size → w.cell? ⟨g,i,none⟩ = xs[i]?) := by
  rcases h.2 with ⟨hv,h0⟩ | ⟨g,cap,cur,hv,hb0,hblk,hnc,hcm,hcs,htk⟩
  · exact ⟨none,0,by rw [hv,h0],fun hp => by omega⟩
  refine ⟨_,_,hv,fun _ => ⟨g,rfl,hb0,lt_of_some hblk,hnc,fun i hi => ?_⟩⟩
  rw [cell_block hblk,← htk,List.getElem?_take,if_pos hi]
  simp
theorem prmsAt_of {S : Nat → Prop} {w : World} {v : Value} {ps : List Prm} (h : PrmRow S w v ps) : PrmsAt w w.heap.size v ps := by
  rcases h with ⟨rfl,rfl⟩ | ⟨g,cap,cur,rfl,hs,hc,hn,ht⟩
  · exact ⟨none,0,rfl,fun hp => by simp at hp⟩
  refine ⟨_,_,rfl,fun _ => ⟨g,rfl,lt_of_some hc,hn,fun j hj => ?_⟩⟩
  have hl : ∀ i,i < 3 → w.cell? ⟨g,j * 3 + i,none⟩ = (prmCells ps[j])[i]? := by
    intro i hi
    rw [cell_block hc,← flat_at prmCells 3 (fun x => rfl) ps j hj i hi,← ht,List.getElem?_take,if_pos (by omega)]
    simp
  exact ⟨hl 0 (by omega),hl 1 (by omega),hl 2 (by omega)⟩
theorem parts_all {S : Nat → Prop} {w : World} {fs : List Fun} {bvs : Nat → Value} (h : ∀ j,(hj : j < fs.length) → Parts S w (bvs j) fs[j].body.parts) : ∃ m,∀ m',m ≤ m' → ∀ j,(hj : j < fs.length) → PartsN m' S w (bvs j) fs[j].body.parts := by
  have : ∀ k,k ≤ fs.length → ∃ m,∀ j,(hj : j < fs.length) → j < k → PartsN m S w (bvs j) fs[j].body.parts := by
    intro k
    induction k with
    | zero => intro _; exact ⟨0,fun j _ h => by omega⟩
    | succ k ih =>
      intro hk
      obtain ⟨m,hm⟩ := ih (by omega)
      obtain ⟨n,hn⟩ := h k (by omega)
      refine ⟨max m n,fun j hj hjk => ?_⟩
      by_cases e : j = k
      · subst e; exact hn.mono (by omega)
      · exact (hm j hj (by omega)).mono (by omega)
  obtain ⟨m,hm⟩ := this fs.length (Nat.le_refl _)
  exact ⟨m,fun m' h' j hj => (hm j hj hj).mono h'⟩
theorem ModIs.cells {lo : Nat} {w : World} {mb : Nat} {md : Mod} (h : ModIs lo w mb md) : ∃ m,∀ m',m ≤ m' → ModAt m' (fun k => k < w.heap.size) w.heap.size w mb md := by
  obtain ⟨iv,fv,xs,hb,hi,hf,hfs⟩ := h
  have hch : ∀ j,∃ pv bv,∀ (hj : j < md.funs.length),(xs.drop (j * 10)).take 10 = funCells md.funs[j] pv bv ∧ PrmRow (fun k => lo ≤ k) w pv md.funs[j].params ∧ Parts (fun k => lo ≤ k) w bv md.funs[j].body.parts := by
    intro j
    by_cases hj : j < md.funs.length
    · obtain ⟨pv,bv,r⟩ := hfs j hj; exact ⟨pv,bv,fun _ => r⟩
    · exact ⟨.slice none 0 0,.slice none 0 0,fun h => absurd h hj⟩
  have hp := fun j => (hch j).choose_spec
  obtain ⟨m,hm⟩ := parts_all (S := fun k => k < w.heap.size) (w := w) (fs := md.funs) (bvs := fun j => (hp j).choose) (fun j hj => (((hp j).choose_spec hj).2.2).bound.mono (fun k h _ => h.2))
  refine ⟨m,fun m' hm' => ⟨lt_of_some hb,?_,?_⟩⟩
  · obtain ⟨o,c,rfl,hr⟩ := owns_at hi
    refine ⟨o,c,by rw [cell_block hb]; rfl,fun hpos => ?_⟩
    obtain ⟨g,rfl,_,hg,hc,hcell⟩ := hr hpos
    refine ⟨g,rfl,hg,hc,fun j hj => ?_⟩
    have hl : ∀ i,i < 2 → w.cell? ⟨g,j * 2 + i,none⟩ = (impCells md.imports[j])[i]? := fun i hi' => by
      rw [hcell _ (by omega),flat_at impCells 2 (fun x => rfl) md.imports j hj i hi']
    exact ⟨hl 0 (by omega),hl 1 (by omega)⟩
  obtain ⟨o,c,rfl,hr⟩ := owns_at hf
  refine ⟨o,c,by rw [cell_block hb]; rfl,fun hpos => ?_⟩
  obtain ⟨g,rfl,_,hg,hc,hcell⟩ := hr hpos
  refine ⟨g,rfl,hg,hc,fun j hj => ?_⟩
  obtain ⟨ht,hpr,hpa⟩ := (hp j).choose_spec hj
  have hl : ∀ i,i < 10 → w.cell? ⟨g,j * 10 + i,none⟩ = (funCells md.funs[j] (hch j).choose (hp j).choose)[i]? := fun i hi' => by
    rw [hcell _ (by omega),← ht,List.getElem?_take,if_pos hi',List.getElem?_drop]
  exact ⟨_,_,hl 0 (by omega),hl 1 (by omega),hl 2 (by omega),hl 3 (by omega),hl 4 (by omega),hl 5 (by omega),hl 6 (by omega),hl 7 (by omega),hl 8 (by omega),hl 9 (by omega),prmsAt_of hpr,hm m' hm' j hj⟩
end Go.Proofs.YtpmmjkiclngpmaaGreatDoor
namespace Go.Proofs.YtpmmjkiclngpmaaGreatDoor
open Go.RowKit
structure NamesAt (w : World) (mb g : Nat) (fs : List (List UInt8 × Bool)) : Prop where
  row : ∃ fo fc,w.cell? ⟨mb,1,none⟩ = some (.slice fo fs.length fc) ∧ (0 < fs.length → fo = some ⟨g,0,none⟩ ∧ fs.length ≤ fc)
  cells : ∀ j,(hj : j < fs.length) → w.cell? ⟨g,j * 10,none⟩ = some (.string ⟨(fs[j].1).toArray⟩) ∧ w.cell? ⟨g,j * 10 + 2,none⟩ = some (.bool fs[j].2)
  lt : mb < w.heap.size ∧ (0 < fs.length → g < w.heap.size)
  small : fs.length ≤ 100000
def firstF (pub : Bool) (name : List UInt8) : Nat → List (List UInt8 × Bool) → Option Nat
  | _,[] => none
  | k,x :: r => if (pub = true → x.2 = true) ∧ x.1 = name then some k else firstF pub name (k + 1) r
def ptrF (g : Nat) (o : Option Nat) : Option Addr := o.map fun j => ⟨g,j * 10,none⟩
theorem firstF_drop (pub : Bool) (name : List UInt8) (fs : List (List UInt8 × Bool)) (j : Nat) (hj : j < fs.length) : firstF pub name j (fs.drop j) = if (pub = true → fs[j].2 = true) ∧ fs[j].1 = name then some j else firstF pub name (j + 1) (fs.drop (j + 1)) := by
  rw [List.drop_eq_getElem_cons hj]; rfl
theorem ret_ptr {a b : Option Addr} (h : a = b) : Ending.returned (.pointer a) = Ending.returned (.pointer b) := by rw [h]
theorem own_any (w : World) (mb g : Nat) (fs : List (List UInt8 × Bool)) (h : NamesAt w mb g fs) (name : List UInt8) :
    Calls Tryz.prog 280 #[.pointer (some ⟨mb,0,none⟩),.string ⟨name.toArray⟩] w fun e w' => e = .returned (.pointer (ptrF g (firstF false name 0 fs))) ∧ w' = w := by
  obtain ⟨fo,fc,hr,hfo⟩ := h.row
  have hlt := h.lt.1
  have hsm := h.small
  have HC := hide h.cells
  have HG := hide h.lt.2
  have HFo := hide hfo
  clear h hfo
  go_enter Tryz.func280,Tryz.ntmps280
  go_wp2
  go_loop [11] (fun i => ∃ j : Nat,j ≤ fs.length ∧ i = .int .i64 j ∧ Hid (firstF false name 0 fs = firstF false name j (fs.drop j))) (fun i => fs.length - (intOf i).toNat)
  case atStart => exact ⟨0,Nat.zero_le _,rfl,by show firstF _ _ _ _ = _; rfl⟩
  obtain ⟨j,hj,rfl,HR⟩ := hrel
  by_cases hl : j < fs.length
  · obtain ⟨c0,c2⟩ := HC.out j hl
    have hg := HG.out (by omega)
    obtain ⟨rfl,hfc⟩ := HFo.out (by omega)
    have HD := hide (firstF_drop false name fs j hl)
    rcases he : (fs[j].1 == name) with _ | _
    · have hne : ¬ fs[j].1 = name := by simpa using he
      go_wp2
      go_round
      case rel => exact ⟨j + 1,by omega,by go_num,by show firstF _ _ _ _ = _; rw [HR.out,HD.out,if_neg (fun h => hne h.2)]⟩
      case measure => simp [intOf]; omega
    · have heq : fs[j].1 = name := by simpa using he
      go_wp2
      go_ret
      exact ⟨ret_ptr (by rw [HR.out,HD.out,if_pos ⟨fun h => (by cases h),heq⟩]; rfl),rfl⟩
  have hje : j = fs.length := by omega
  subst hje
  have HX := hide (show firstF false name 0 fs = none by rw [HR.out,List.drop_length]; rfl)
  go_wp2
  go_ret
  exact ⟨ret_ptr (by rw [HX.out]; rfl),rfl⟩
theorem exported_any (w : World) (mb g : Nat) (fs : List (List UInt8 × Bool)) (h : NamesAt w mb g fs) (name : List UInt8) :
    Calls Tryz.prog 214 #[.pointer (some ⟨mb,0,none⟩),.string ⟨name.toArray⟩] w fun e w' => e = .returned (.pointer (ptrF g (firstF true name 0 fs))) ∧ w' = w := by
  obtain ⟨fo,fc,hr,hfo⟩ := h.row
  have hlt := h.lt.1
  have hsm := h.small
  have HC := hide h.cells
  have HG := hide h.lt.2
  have HFo := hide hfo
  clear h hfo
  go_enter Tryz.func214,Tryz.ntmps214
  go_wp2
  go_loop [11] (fun i => ∃ j : Nat,j ≤ fs.length ∧ i = .int .i64 j ∧ Hid (firstF true name 0 fs = firstF true name j (fs.drop j))) (fun i => fs.length - (intOf i).toNat)
  case atStart => exact ⟨0,Nat.zero_le _,rfl,by show firstF _ _ _ _ = _; rfl⟩
  obtain ⟨j,hj,rfl,HR⟩ := hrel
  by_cases hl : j < fs.length
  · obtain ⟨c0,c2⟩ := HC.out j hl
    have hg := HG.out (by omega)
    obtain ⟨rfl,hfc⟩ := HFo.out (by omega)
    have HD := hide (firstF_drop true name fs j hl)
    rcases hp : fs[j].2 with _ | _
    · rw [hp] at c2
      have HP := hide hp
      clear hp
      go_wp2
      go_round
      case rel => exact ⟨j + 1,by omega,by go_num,by show firstF _ _ _ _ = _; rw [HR.out,HD.out,if_neg (fun h => by have := h.1 rfl; rw [HP.out] at this; cases this)]⟩
      case measure => simp [intOf]; omega
    · rw [hp] at c2
      have HP := hide hp
      clear hp
      rcases he : (fs[j].1 == name) with _ | _
      · have hne : ¬ fs[j].1 = name := by simpa using he
        go_wp2
        go_round
        case rel => exact ⟨j + 1,by omega,by go_num,by show firstF _ _ _ _ = _; rw [HR.out,HD.out,if_neg (fun h => hne h.2)]⟩
        case measure => simp [intOf]; omega
      · have heq : fs[j].1 = name := by simpa using he
        go_wp2
        go_ret
        exact ⟨ret_ptr (by rw [HR.out,HD.out,if_pos ⟨fun _ => HP.out,heq⟩]; rfl),rfl⟩
  have hje : j = fs.length := by omega
  subst hje
  have HX := hide (show firstF true name 0 fs = none by rw [HR.out,List.drop_length]; rfl)
  go_wp2
  go_ret
  exact ⟨ret_ptr (by rw [HX.out]; rfl),rfl⟩
end Go.Proofs.YtpmmjkiclngpmaaGreatDoor
namespace Go.Proofs.YtpmmjkiclngpmaaGreatDoor
open Go.RowKit
def sigOf (f : Fun) : List Nat × Nat := (f.params.map (fun x => x.typ),f.result)
def namesOf (md : Mod) : List (List UInt8 × Bool) := md.funs.map fun f => (f.name,f.pub)
def firstG (pub : Bool) (name : List UInt8) : List Fun → Option Fun
  | [] => none
  | f :: r => if (pub = true → f.pub = true) ∧ f.name = name then some f else firstG pub name r
theorem firstF_map (pub : Bool) (name : List UInt8) (fs : List Fun) (k : Nat) :
    (firstF pub name k (fs.map fun f => (f.name,f.pub)) = none ∧ firstG pub name fs = none) ∨ ∃ j f,firstF pub name k (fs.map fun f => (f.name,f.pub)) = some (k + j) ∧ firstG pub name fs = some f ∧ fs[j]? = some f := by
  induction fs generalizing k with
  | nil => exact Or.inl ⟨rfl,rfl⟩
  | cons x r ih =>
    simp only [List.map_cons,firstF,firstG]
    by_cases h : (pub = true → x.pub = true) ∧ x.name = name
    · rw [if_pos h,if_pos h]
      exact Or.inr ⟨0,x,rfl,rfl,rfl⟩
    · rw [if_neg h,if_neg h]
      rcases ih (k + 1) with ⟨a,b⟩ | ⟨j,f,a,b,c⟩
      · exact Or.inl ⟨a,b⟩
      · exact Or.inr ⟨j + 1,f,by rw [a]; congr 1; omega,b,by simpa using c⟩
def lookI (name : List UInt8) : List (Option Mod) → Option Fun
  | [] => none
  | none :: r => lookI name r
  | some md :: r => match firstG true name md.funs with
    | some f => some f
    | none => lookI name r
def lookV (md : Mod) (ims : List (Option Mod)) (name : List UInt8) : Option (List Nat × Nat) :=
  match firstG false name md.funs with
  | some f => some (sigOf f)
  | none => (lookI name ims).map sigOf
def rowOf (w : World) (mb : Nat) : Nat := match w.cell? ⟨mb,1,none⟩ with | some (.slice (some a) _ _) => a.block | _ => 0
theorem ModAt.names {m : Nat} {S : Nat → Prop} {w : World} {mb : Nat} {md : Mod} (h : ModAt m S w.heap.size w mb md) (hl : md.funs.length ≤ 100000) : NamesAt w mb (rowOf w mb) (namesOf md) := by
  obtain ⟨fo,fc,hc,hr⟩ := h.funs
  have hlen : (namesOf md).length = md.funs.length := by simp [namesOf]
  have hg : 0 < md.funs.length → fo = some ⟨rowOf w mb,0,none⟩ := fun hp => by
    obtain ⟨g,rfl,_⟩ := hr hp
    simp [rowOf,hc]
  refine ⟨⟨fo,fc,by rw [hlen]; exact hc,fun hp => ?_⟩,fun j hj => ?_,⟨h.lt,fun hp => ?_⟩,by rw [hlen]; exact hl⟩
  · rw [hlen] at hp ⊢
    obtain ⟨g,_,_,h3,_⟩ := hr hp
    exact ⟨hg hp,h3⟩
  · rw [hlen] at hj
    obtain ⟨g,rfl,h2,h3,h4⟩ := hr (by omega)
    have e := hg (by omega)
    simp only [Option.some.injEq,Addr.mk.injEq] at e
    obtain ⟨e,_⟩ := e
    obtain ⟨pv,bv,b0,b1,b2,_⟩ := h4 j hj
    rw [← e]
    simp only [namesOf,List.getElem_map]
    exact ⟨b0,b2⟩
  rw [hlen] at hp
  obtain ⟨g,rfl,h2,_⟩ := hr hp
  have e := hg hp
  simp only [Option.some.injEq,Addr.mk.injEq] at e
  rw [← e.1]; exact h2
end Go.Proofs.YtpmmjkiclngpmaaGreatDoor
