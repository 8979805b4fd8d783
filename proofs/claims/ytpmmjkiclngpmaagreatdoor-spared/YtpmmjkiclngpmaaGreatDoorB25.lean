/- YtpmmjkiclngpmaaGreatDoorB25 -/
import Derived.Test.YtpmmjkiclngpmaaGreatDoorB16
import Derived.Test.YtpmmjkiclngpmaaGreatDoorB24
set_option maxRecDepth 100000
set_option linter.unusedSimpArgs false
set_option linter.unusedVariables false
set_option maxHeartbeats 12800000
namespace Go.Proofs.YtpmmjkiclngpmaaGreatDoor
open Go.RowKit
def enters : List Prm → CS → CS
  | [],s => s
  | x :: r,s => enters r (s.enter x.name)
theorem enters_snoc (l : List Prm) (x : Prm) (s : CS) : enters (l ++ [x]) s = (enters l s).enter x.name := by
  induction l generalizing s with
  | nil => rfl
  | cons y r ih => exact ih _
theorem enters_len (l : List Prm) (s : CS) (h : s.slots ≤ s.scope.length) : (enters l s).scope.length = s.scope.length + l.length ∧ (enters l s).slots ≤ s.scope.length + l.length ∧ (enters l s).code = s.code ∧ (enters l s).calls = s.calls ∧ (enters l s).lk = s.lk := by
  induction l generalizing s with
  | nil => exact ⟨rfl,by simpa [enters] using h,rfl,rfl,rfl⟩
  | cons x r ih =>
    have hs : (s.enter x.name).scope.length = s.scope.length + 1 := by simp [CS.enter]
    have := ih (s.enter x.name) (by rw [hs]; simp only [CS.enter]; omega)
    rw [hs] at this
    obtain ⟨a,b,c,d,d'⟩ := this
    exact ⟨by show (enters r _).scope.length = _; rw [a]; simp; omega,by show (enters r _).slots ≤ _; simp; omega,c,d,d'⟩
def fnVal (vn name : List UInt8) (pub : Bool) (pv : Value) (sig : List UInt8) (slots : Nat) (kv lv : Value) : Value := .agg #[.string ⟨vn.toArray⟩,.string ⟨name.toArray⟩,.bool pub,pv,.string ⟨sig.toArray⟩,.int .i64 slots,kv,lv]
def resObj : Obj := .cells #[.string ⟨#[]⟩,.string ⟨#[]⟩,.bool false,.slice none 0 0,.string ⟨#[]⟩,.int .i64 0,.slice none 0 0,.slice none 0 0] 92
def begun (l : List Us) : CS := ⟨[],0,[],[],l⟩
def codeOf (fnd : Fnd) (m : Nat) (f : Fun) (l : List Us) : CS := (gen fnd (m + 1) f.body (enters f.params (begun l))).emit 6 0
theorem owns_set8 {w : World} {base : Nat} {e : TypeId} {size : Nat} {v : Value} {n : Nat} {xs : List Value} (h : w.ownsRow base e size v n xs) {b : Nat} (hne : v.ownBlock ≠ some b) (u0 u1 u2 u3 u4 u5 u6 u7 : Value) :
    ((((((((w.setCell ⟨b,0,none⟩ u0).setCell ⟨b,1,none⟩ u1).setCell ⟨b,2,none⟩ u2).setCell ⟨b,3,none⟩ u3).setCell ⟨b,4,none⟩ u4).setCell ⟨b,5,none⟩ u5).setCell ⟨b,6,none⟩ u6).setCell ⟨b,7,none⟩ u7).ownsRow base e size v n xs :=
  owns_set_other (owns_set_other (owns_set_other (owns_set_other (owns_set_other (owns_set_other (owns_set_other (owns_set_other h hne _ _) hne _ _) hne _ _) hne _ _) hne _ _) hne _ _) hne _ _) hne _ _
theorem vw_set8 {lo : Nat} {V : VK} {lk : List Us} {uv : Value} {w : World} (h : Vw lo V lk uv w) {b : Nat} (hb : ∀ k,VHas V uv k → k ≠ b) (u0 u1 u2 u3 u4 u5 u6 u7 : Value) :
    Vw lo V lk uv ((((((((w.setCell ⟨b,0,none⟩ u0).setCell ⟨b,1,none⟩ u1).setCell ⟨b,2,none⟩ u2).setCell ⟨b,3,none⟩ u3).setCell ⟨b,4,none⟩ u4).setCell ⟨b,5,none⟩ u5).setCell ⟨b,6,none⟩ u6).setCell ⟨b,7,none⟩ u7) :=
  (((((((h.set hb _ _).set hb _ _).set hb _ _).set hb _ _).set hb _ _).set hb _ _).set hb _ _).set hb _ _
theorem cel_set8 {B : Cb} {a w : World} (h : Cel B a w) {b : Nat} (hb : B.lo ≤ b) (ht : ¬ B.tb b) (u0 u1 u2 u3 u4 u5 u6 u7 : Value) :
    Cel B a ((((((((w.setCell ⟨b,0,none⟩ u0).setCell ⟨b,1,none⟩ u1).setCell ⟨b,2,none⟩ u2).setCell ⟨b,3,none⟩ u3).setCell ⟨b,4,none⟩ u4).setCell ⟨b,5,none⟩ u5).setCell ⟨b,6,none⟩ u6).setCell ⟨b,7,none⟩ u7) :=
  cel_set (cel_set (cel_set (cel_set (cel_set (cel_set (cel_set (cel_set h hb ht _ _) hb ht _ _) hb ht _ _) hb ht _ _) hb ht _ _) hb ht _ _) hb ht _ _) hb ht _ _
theorem compileFunction_any (m : Nat) (S : Nat → Prop) (lo : Nat) (T : Nat → Prop) (hS : ∀ k,S k → k < lo) (w : World) (V : VK) (lk0 : List Us) (uv0 : Value) (hvw : Vw lo V lk0 uv0 w)
    (hT : ∀ k,T k → k < w.heap.size) (hTv : ∀ k,k = V.b ∨ uv0.ownBlock = some k → ¬ T k) (hTi : ∀ k,V.iv.ownBlock = some k → T k)
    (g o : Nat) (f : Fun) (hF : FunAt m S lo w g o f) (hg : g < lo) (fnd : Fnd) (known : List UInt8 → Prop) (hfnd : ∀ C tb w1,C.c0 = .pointer (some ⟨V.b,0,none⟩) → C.V = V → Below lo w w1 → FindC ⟨lo,tb⟩ w1 C fnd known)
    (sig : List UInt8) (hsig : ∀ w',Below lo w w' → Calls Tryz.prog 174 #[.pointer (some ⟨g,o,none⟩)] w' fun e w'' => e = .returned (.string ⟨sig.toArray⟩) ∧ Below w'.heap.size w' w'')
    (hsh : Shp known (m + 1) f.body) (hpl : f.params.length + 2 * sz (m + 1) f.body + 2 ≤ 1000000) (hlk : lk0.length + 1000 * sz (m + 1) f.body ≤ 8000000000) :
    Calls Tryz.prog 116 #[.pointer (some ⟨V.b,0,none⟩),.pointer (some ⟨g,o,none⟩)] w fun e w' => ∃ pv kv lv uv,e = .returned (fnVal V.nm f.name f.pub pv sig (codeOf fnd m f lk0).slots kv lv) ∧ Cel ⟨lo,T⟩ w w' ∧ Vw lo V (codeOf fnd m f lk0).lk uv w' ∧
      w'.ownsRow lo 132 1 pv f.params.length (typCells (f.params.map fun x => x.typ)) ∧ w'.ownsRow lo 196 2 kv (codeOf fnd m f lk0).code.length (insCells (codeOf fnd m f lk0).code) ∧ w'.ownsRow lo 87 2 lv (codeOf fnd m f lk0).calls.length (symCells (codeOf fnd m f lk0).calls) ∧
      (∀ k,pv.ownBlock = some k ∨ kv.ownBlock = some k ∨ lv.ownBlock = some k → ¬ T k ∧ ¬ VHas V uv k) ∧ (∀ k,k = V.b ∨ uv.ownBlock = some k → ¬ T k) := by
  obtain ⟨pv,bv,b0,b1,b2,b3,b4,b5,b6,b7,b8,b9,⟨po,pc,hpv,hpr⟩,hpa⟩ := hF
  subst hpv
  have HBody := hide (show ExAt m S w g (o + 5) f.body from ⟨bv,b5,b7,b8,b9,hpa⟩)
  have HPr := hide hpr
  have HB3 := hide b3
  have HSh := hide hsh
  have HFnd := hide hfnd
  have HSig := hide hsig
  have HVw := hide hvw
  have HTl := hide hT
  have HTv := hide hTv
  have HTi := hide hTi
  obtain ⟨hvn,_,_,_⟩ := hvw.field
  have hvb := hvw.lt
  have hvl := hvw.low
  have hlw : lo ≤ w.heap.size := by omega
  have hgw : g < w.heap.size := by omega
  clear hpr hpa b1 b4 b5 b6 b7 b8 b9 hsh hfnd hsig hvw hT hTv hTi
  obtain ⟨i0,hi,hz0,hz1,hz2⟩ := info_parts info_typ
  go_enter Tryz.func116,Tryz.ntmps116
  go_wp2_with fail
  have y1 : V.b < w.heap.size + 1 := by omega
  go_cut [] (fun wx => wx = ((w.alloc resObj).alloc (.cells #[.pointer (some ⟨V.b,0,none⟩),.slice none 0 0,.string ⟨V.nm.toArray⟩,.string ⟨f.name.toArray⟩,.bool false,.slice none 0 0,.string ⟨#[]⟩,.int .i64 0,.slice none 0 0,.slice none 0 0] 308)).drew)
  case first =>
    go_region
    all_goals
      (try go_wp2_with fail)
      go_meet
      rfl
  subst hcut
  unfold resObj
  go_wp2_with fail
  refine (HSig.out _ ?hb).mono ?_
  case hb => exact ((((Below.refl _ _).alloc (Nat.le_refl _) _).alloc (by simp) _).drew).mono hlw
  rintro e w2 ⟨rfl,hb2⟩
  have hsz : (w.alloc resObj).heap.size = w.heap.size + 1 := by simp
  have HBA := hide (show Below (w.alloc resObj).heap.size (w.alloc resObj) w2 from (((Below.refl _ _).alloc (Nat.le_refl _) _).drew).trans (hb2.mono (by simp)))
  have hcb : w2.heap[w.heap.size + 1]? = some (.cells #[.pointer (some ⟨V.b,0,none⟩),.slice none 0 0,.string ⟨V.nm.toArray⟩,.string ⟨f.name.toArray⟩,.bool f.pub,.slice none 0 0,.string ⟨#[]⟩,.int .i64 0,.slice none 0 0,.slice none 0 0] 308 (0,0)) :=
    (hb2.block _ (by simp)).trans (block_drew (block_new2 w _ _))
  have k6 := cell_block hcb 6
  have kf := free_block hcb
  have kl := lt_of_some hcb
  simp at k6
  obtain ⟨C0,hC0⟩ : ∃ C0 : CK,C0 = ⟨.pointer (some ⟨V.b,0,none⟩),.string ⟨V.nm.toArray⟩,.string ⟨f.name.toArray⟩,.bool f.pub,.slice none 0 0,.string ⟨sig.toArray⟩,V⟩ := ⟨_,rfl⟩
  have HC0 := hide hC0
  obtain ⟨T1,hT1⟩ : ∃ T1 : Nat → Prop,T1 = fun k => T k ∨ k = w.heap.size := ⟨_,rfl⟩
  have HT1 := hide hT1
  have hV0 : C0.V = V := by rw [hC0]
  have HCV := hide hV0
  have HTi1 := hide (show ∀ k,C0.V.iv.ownBlock = some k → T1 k from fun k e => by rw [hT1]; rw [hV0] at e; exact Or.inl (HTi.out k e))
  have HT1l := hide (show ∀ k,T1 k → k < w.heap.size + 1 from fun k e => by rw [hT1] at e; exact e.elim (fun e => by have := HTl.out k e; omega) (fun e => by omega))
  have HU2 := hide (show Vw lo V lk0 uv0 w2 from (((HVw.out.alloc resObj).alloc _).drew).below hb2)
  have HCd := hide (show Cd ⟨lo,fun k => T1 k ∨ (Value.slice none 0 0).ownBlock = some k⟩ (w.heap.size + 1) C0 (begun lk0) (.slice none 0 0) (.slice none 0 0) (.slice none 0 0) (w2.setCell ⟨w.heap.size + 1,6,none⟩ (.string ⟨sig.toArray⟩)) from
    ⟨by show lo ≤ _; omega,by rw [block_setCell hcb,hC0]; rfl,World.ownsRow_nil _ _ _ _,World.ownsRow_nil _ _ _ _,World.ownsRow_nil _ _ _ _,by simp [Value.ownBlock],by simp [Value.ownBlock],by simp [Value.ownBlock],by simp [Value.ownBlock],by simp [Value.ownBlock],by simp [Value.ownBlock],
     fun k hk => (by have hk' : T1 k ∨ (Value.slice none 0 0).ownBlock = some k := hk; have := hk'.elim (HT1l.out k) (fun e => by simp [Value.ownBlock] at e); simp only [World.setCell,Array.size_modify]; omega),
     fun hk => (by have hk' : T1 (w.heap.size + 1) ∨ (Value.slice none 0 0).ownBlock = some (w.heap.size + 1) := hk; have := hk'.elim (HT1l.out _) (fun e => by simp [Value.ownBlock] at e); omega),
     by simp [Value.ownBlock],by simp [Value.ownBlock],by simp [Value.ownBlock],
     uv0,by rw [hV0]; exact HU2.out.set (fun k hk => by have := (HVw.out.has hk).2; omega) _ _,fun k hk => by
       rw [hV0] at hk
       have hlt := (HVw.out.has hk).2
       refine ⟨by omega,by simp [Value.ownBlock],by simp [Value.ownBlock],by simp [Value.ownBlock],fun e e' => ?_⟩
       have e2 : T1 k ∨ (Value.slice none 0 0).ownBlock = some k := e'
       rw [hV0] at e
       rcases e2 with e2 | e2
       · rw [hT1] at e2
         exact e2.elim (HTv.out k e) (fun e3 => by omega)
       · simp [Value.ownBlock] at e2⟩)
  have HB0 := hide (show Cel ⟨lo,T1⟩ (w.alloc resObj) (w2.setCell ⟨w.heap.size + 1,6,none⟩ (.string ⟨sig.toArray⟩)) from cel_set (Cel.of HBA.out (by show lo ≤ _; rw [hsz]; omega) (by rw [hsz]; exact HT1l.out)) (by show lo ≤ _; omega) (fun e => by have := HT1l.out _ e; omega) _ _)
  have c3 : (w2.setCell ⟨w.heap.size + 1,6,none⟩ (.string ⟨sig.toArray⟩)).cell? ⟨g,o + 3,none⟩ = some (.slice po f.params.length pc) := (below_cell HB0.out.bel hg _).trans ((World.cell?_of_block (Below.heap_alloc _ _ _ (Nat.lt_of_lt_of_le hg hlw))).trans HB3.out)
  have hg2 : g < w2.heap.size := by omega
  clear hb2 hcb hC0
  go_wp2_with fail
  clear k6 kf kl c3
  generalize hcbe : w.heap.size + 1 = cb at *
  have HCb := hide hcbe
  have hcb' : w.heap.size < cb := by omega
  go_loopg [43] f.params.length (fun n i wr => ∃ (j : Nat) (pv sv kv lv : Value),n + j = f.params.length ∧ i = .int .i64 j ∧ Hid (Cd ⟨lo,fun k => T1 k ∨ pv.ownBlock = some k⟩ cb { C0 with c5 := pv } (enters (f.params.take j) (begun lk0)) sv kv lv wr) ∧ Hid (wr.ownsRow lo 132 1 pv j (typCells ((f.params.map fun x => x.typ).take j))) ∧ Hid (∀ k,pv.ownBlock = some k → lo ≤ k ∧ ¬ T1 k) ∧ Hid (Cel ⟨lo,T1⟩ (w.alloc resObj) wr))
  case atStart => exact ⟨0,.slice none 0 0,_,_,_,by omega,rfl,by show Cd _ _ _ _ _ _ _ _; have := HCd.out; rw [HC0.out] at this ⊢; exact this,by show World.ownsRow _ _ _ _ _ _ _; exact World.ownsRow_nil _ _ _ _,by show ∀ k,_; intro k e; simp [Value.ownBlock] at e,HB0.out⟩
  obtain ⟨j,pv,sv,kv,lv,hj,rfl,HCr,HPv,HPt,HBr⟩ := hrel
  have hsw : cb < wr.heap.size := HCr.out.lt
  have hwA : ∀ b,b < lo → ∀ q,wr.cell? ⟨b,q,none⟩ = w.cell? ⟨b,q,none⟩ := fun b hb q => (below_cell HBr.out.bel hb q).trans (World.cell?_of_block (Below.heap_alloc _ _ _ (Nat.lt_of_lt_of_le hb hlw)))
  by_cases hlt : j < f.params.length
  · obtain ⟨gb,rfl,hgb,hpc,hat⟩ := HPr.out (by omega)
    obtain ⟨q0,q1,q2⟩ := hat j hlt
    have d0 := (hwA gb hgb _).trans q0
    have d1 := (hwA gb hgb _).trans q1
    have d2 := (hwA gb hgb _).trans q2
    have hg7 : gb < wr.heap.size := by omega
    have HTk := hide (show enters (f.params.take (j + 1)) (begun lk0) = (enters (f.params.take j) (begun lk0)).enter f.params[j].name by rw [List.take_succ_eq_append_getElem hlt,enters_snoc])
    have HTy := hide (show typCells ((f.params.map fun x => x.typ).take (j + 1)) = typCells ((f.params.map fun x => x.typ).take j) ++ [.int .i64 f.params[j].typ] by rw [List.take_succ_eq_append_getElem (by simpa using hlt)]; simp [typCells])
    have hel := enters_len (f.params.take j) (begun lk0) (by simp [begun])
    have hle : (f.params.take j).length = j := by simp; omega
    obtain ⟨po2,pc2,rfl⟩ := owns_shape' HPv.out
    have hl1 : (enters (f.params.take j) (begun lk0)).scope.length ≤ 1000000 := by rw [hel.1,hle]; simp [begun]; omega
    have hl2 : (enters (f.params.take j) (begun lk0)).slots ≤ 1000000 := by have := hel.2.1; rw [hle] at this; simp [begun] at this; omega
    generalize hx : f.params[j] = x at *
    clear hx hat q0 q1 q2 hel hle hwA
    have hkl := HCr.out.lt
    have g0 := free_block HCr.out.blk
    have f5 : wr.cell? ⟨cb,5,none⟩ = some (.slice po2 j pc2) := by rw [cell_block HCr.out.blk]; rfl
    have b1' : j + 1 ≤ maxLen := by unfold maxLen; omega
    have b2' : (j + 1) * 8 ≤ 140737488355328 := by omega
    go_wp2_with fail
    generalize hwp : wr.alloc (.cells #[.string ⟨x.name.toArray⟩,.int .i64 x.place,.int .i64 x.typ] 301) = wp
    have HPb := hide (show wp.heap[wr.heap.size]? = some (.cells #[.string ⟨x.name.toArray⟩,.int .i64 x.place,.int .i64 x.typ] 301 (0,0)) by rw [← hwp]; exact block_new _ _)
    have HBp := hide (show Below wr.heap.size wr wp by rw [← hwp]; exact (Below.refl _ _).alloc (Nat.le_refl _) _)
    have HCp := hide (HCr.out.below HBp.out)
    have HPp := hide (owr_keep HPv.out (fun k _ l => HBp.out.block k l) : wp.ownsRow lo 132 1 (.slice po2 j pc2) j (typCells ((f.params.map fun x => x.typ).take j)))
    have p0 := cell_block HPb.out 0
    have p2 := cell_block HPb.out 2
    have psz := lt_of_some HPb.out
    simp at p0 p2
    have f5p := (HBp.out.cell (p := ⟨cb,5,none⟩) hkl).trans f5
    have g0p := free_block HCp.out.blk
    have hklp := HCp.out.lt
    have hone : ∀ v ∈ [Value.int .i64 (x.typ : Int)],v.oneCell' = true := by
      intro v hv
      rcases List.mem_cons.1 hv with rfl | hv
      · rfl
      · cases hv
    have HOne := hide hone
    have HBd := hide (show lo ≤ (wp.drew.alloc (.cells #[.int .i64 x.typ] 132)).heap.size by simp; omega)
    clear hone hwp f5 g0 d0 d1 d2
    go_cut [] (fun wx => ∃ g' cap',Hid (Cd ⟨lo,fun k => T1 k ∨ (Value.slice (some ⟨g',0,none⟩) (j + 1) cap').ownBlock = some k⟩ cb { C0 with c5 := .slice (some ⟨g',0,none⟩) (j + 1) cap' } (enters (f.params.take j) (begun lk0)) sv kv lv wx) ∧ Hid (wx.ownsRow lo 132 1 (.slice (some ⟨g',0,none⟩) (j + 1) cap') (j + 1) (typCells ((f.params.map fun x => x.typ).take (j + 1)))) ∧ Hid (Cel ⟨lo,T1⟩ wp wx) ∧ wx.cell? ⟨wr.heap.size,0,none⟩ = some (.string ⟨x.name.toArray⟩) ∧ Hid (lo ≤ g' ∧ ¬ T1 g') ∧ wr.heap.size < wx.heap.size)
    case first =>
      go_region_law (refine step_app_where rfl (.tmp 52) (.tmp 55) 88 rfl lo 132 i0 (.int .i64 0) 1 8 Tryz.underlying88 hi hz0 hz1 hz2 rfl (by decide) (.slice po2 j pc2) j (typCells ((f.params.map fun x => x.typ).take j)) ?_ ?_ ⟨wp.heap.size,0,none⟩ 1 1 [.int .i64 x.typ] ?_ rfl ?_ HOne.out b1' b2' ?_ ?_; (simp [Act.eval,Act.put]); (exact (World.ownsRow.drew HPp.out).alloc _); (simp [Act.eval,Act.put]); (exact (new1_cells wp.drew _ _)); (exact HBd.out); intro v' w4 hown hgrow hwhere; obtain ⟨g4,c4,cu4,rfl,_⟩ := owr_shape hown (by omega); have HG := hide (grown_drew1 (grown_alloc hgrow)); have HO := hide hown; have HWh := hide hwhere; have hmk4 := (HG.out.block cb hklp (fun e => HCp.out.nm (Or.inr e.symm))).trans HCp.out.blk; have k5 := cell_block hmk4 5; have kf := free_block hmk4; have kl := lt_of_some hmk4; simp at k5; clear hown hgrow hwhere hmk4)
      all_goals
        have HQ := hide (Cd.putParams (.slice po2 j pc2) HCp.out HPt.out HTi1.out HG.out g4 c4 ((f.params.map fun x => x.typ).take (j + 1)) (by
          have e1 : ((f.params.map fun x => x.typ).take (j + 1)).length = j + 1 := by simp; omega
          rw [e1,HTy.out]; exact HO.out) ((HWh.out g4 rfl).imp id (fun h => by have h' : wp.heap.size + 1 ≤ g4 := (by simpa using h); omega)))
        have e1 : ((f.params.map fun x => x.typ).take (j + 1)).length = j + 1 := by simp; omega
        rw [e1] at HQ
        (try go_wp2_with fail)
        go_meet
        refine ⟨g4,c4,HQ.out.2.1,HQ.out.2.2.1,HQ.out.1,?_,HQ.out.2.2.2,?_⟩
        · have hne : wr.heap.size ≠ cb := by omega
          rw [World.cell?_of_block (Below.heap_setCell _ _ _ _ (show wr.heap.size ≠ cb from hne))]
          rw [World.cell?_of_block (HG.out.block wr.heap.size psz (fun e => by have := (owns_block HPv.out wr.heap.size e.symm).2; omega))]
          exact p0
        · have := HG.out.size; simp [World.setCell]; omega
    case rest =>
      obtain ⟨g',cap',HCx,HPx,HBx,n0,hg',hsx⟩ := hcut
      go_wp2_with fail
      refine (enter_any _ cb _ _ sv kv lv _ HCx.out x.name hl1 hl2).mono ?_
      rintro e' w6 ⟨rfl,hb6,sv6,kv6,lv6,hc6⟩
      have HB6 := hide hb6
      have HC6 := hide hc6
      clear hb6 hc6
      go_wp2
      go_roundg (gk - 1)
      case measure => omega
      case rel =>
        refine ⟨j + 1,.slice (some ⟨g',0,none⟩) (j + 1) cap',sv6,kv6,lv6,by omega,by first | rfl | go_num,?_,?_,?_,?_⟩
        · show Cd _ _ _ _ _ _ _ _
          rw [HTk.out]; exact HC6.out
        · show World.ownsRow _ _ _ _ _ _ _
          exact owr_keep HPx.out (fun k e _ => HB6.out.tab k (Or.inr e))
        · show ∀ k,_
          intro k e; simp only [Value.ownBlock,Option.some.injEq] at e; subst e; exact hg'.out
        · exact HBr.out.trans ((Cel.of HBp.out (by show lo ≤ _; omega) (fun k e => by have := HT1l.out k e; omega)).trans (HBx.out.trans (HB6.out.mono (fun k e => Or.inl e))))
  have hje : j = f.params.length := by omega
  have hji : ¬ (j : Int) < (f.params.length : Int) := by omega
  have HTa := hide (show f.params.take j = f.params by rw [hje,List.take_length])
  have HTt := hide (show (f.params.map fun x => x.typ).take j = f.params.map fun x => x.typ by rw [hje]; exact List.take_of_length_le (by simp))
  have HCe := hide (show Cd ⟨lo,fun k => T1 k ∨ pv.ownBlock = some k⟩ cb { C0 with c5 := pv } (enters f.params (begun lk0)) sv kv lv wr by have := HCr.out; rw [HTa.out] at this; exact this)
  have HEx := hide (show ExAt m S wr g (o + 5) f.body from HBody.out.below (B := lo) hg hS ((((Below.refl _ _).alloc (Nat.le_refl _) resObj).mono hlw).trans HBr.out.bel))
  have hel := enters_len f.params (begun lk0) (by simp [begun])
  have hq1 : (enters f.params (begun lk0)).code.length = 0 := by rw [hel.2.2.1]; rfl
  have hq2 : (enters f.params (begun lk0)).calls.length = 0 := by rw [hel.2.2.2.1]; rfl
  have hq5 : (enters f.params (begun lk0)).lk.length = lk0.length := by rw [hel.2.2.2.2]; rfl
  have hq3 : (enters f.params (begun lk0)).scope.length = f.params.length := by rw [hel.1]; simp [begun]
  have hq4 : (enters f.params (begun lk0)).slots ≤ f.params.length := by have := hel.2.1; simpa [begun] using this
  have HFit := hide (show Fit (enters f.params (begun lk0)) (sz (m + 1) f.body) from ⟨by omega,by omega,by omega,by omega,by omega⟩)
  have hgw := gen_grew fnd (m + 1) f.body (enters f.params (begun lk0))
  have hcl : (gen fnd (m + 1) f.body (enters f.params (begun lk0))).code.length ≤ 1000000 := by have := hgw.code; omega
  have hc0' : ({ C0 with c5 := pv } : CK).c0 = .pointer (some ⟨V.b,0,none⟩) := by rw [HC0.out]
  have HAll := hide (expr_all ⟨lo,fun k => T1 k ∨ pv.ownBlock = some k⟩ wr S hS { C0 with c5 := pv } fnd known (HFnd.out { C0 with c5 := pv } _ wr hc0' HCV.out ((((Below.refl _ _).alloc (Nat.le_refl _) resObj).mono hlw).trans HBr.out.bel)) V.b hc0' cb m)
  have hgr : g < wr.heap.size := by omega
  clear hel hgw hc0' hwA hq1 hq2 hq3 hq4 hq5
  go_wp2_with fail
  refine (HAll.out f.body g (o + 5) _ sv kv lv _ HSh.out HEx.out hg HCe.out (Cel.refl _ _) HFit.out).mono ?_
  rintro e' w6 ⟨rfl,hw6⟩
  have HW6 := hide hw6
  clear hw6
  go_wp2_with fail
  refine (emit_w HW6.out 6 0 hcl).mono ?_
  rintro e' w7 ⟨rfl,hb7,sv7,kv7,lv7,hc7⟩
  have HC7 := hide hc7
  have HB7 := hide (HBr.out.trans (hb7.mono (fun k e => Or.inl e)))
  have hrT : T1 w.heap.size := by rw [HT1.out]; exact Or.inr rfl
  have hrb := (HB7.out.tab w.heap.size hrT).trans (block_new w resObj)
  unfold resObj at hrb
  have HRb := hide hrb
  have HCk := hide (show w7.heap[cb]? = some (.cells #[.pointer (some ⟨V.b,0,none⟩),sv7,.string ⟨V.nm.toArray⟩,.string ⟨f.name.toArray⟩,.bool f.pub,pv,.string ⟨sig.toArray⟩,.int .i64 (codeOf fnd m f lk0).slots,kv7,lv7] 308 (0,0)) by have := hc7.blk; rw [HC0.out] at this; exact this)
  have HPe := hide (show w7.ownsRow lo 132 1 pv f.params.length (typCells (f.params.map fun x => x.typ)) by
    have := owr_keep HPv.out (w' := w7) (fun k e _ => hb7.tab k (Or.inr e))
    rw [HTt.out,hje] at this
    exact this)
  obtain ⟨ka,kn,kc,hkv⟩ : ∃ a n c,kv7 = .slice a n c := by obtain ⟨a,c,e⟩ := owns_shape' hc7.cod; exact ⟨_,_,_,e⟩
  obtain ⟨la,ln,lc,hlv⟩ : ∃ a n c,lv7 = .slice a n c := by obtain ⟨a,c,e⟩ := owns_shape' hc7.cal; exact ⟨_,_,_,e⟩
  obtain ⟨pa,pn,pc',hpv⟩ : ∃ a n c,pv = .slice a n c := by obtain ⟨a,c,e⟩ := owns_shape' HPv.out; exact ⟨_,_,_,e⟩
  subst hkv hlv hpv
  clear hc7 hb7 hrb
  have z0 := cell_block HRb.out 0
  have z1 := cell_block HRb.out 1
  have z2 := cell_block HRb.out 2
  have z3 := cell_block HRb.out 3
  have z4 := cell_block HRb.out 4
  have z5 := cell_block HRb.out 5
  have z6 := cell_block HRb.out 6
  have z7 := cell_block HRb.out 7
  have zf := free_block HRb.out
  have zs := lt_of_some HRb.out
  simp at z0 z1 z2 z3 z4 z5 z6 z7
  have q0 := cell_block HCk.out 0
  have q1 := cell_block HCk.out 1
  have q2 := cell_block HCk.out 2
  have q3 := cell_block HCk.out 3
  have q4 := cell_block HCk.out 4
  have q5 := cell_block HCk.out 5
  have q6 := cell_block HCk.out 6
  have q7 := cell_block HCk.out 7
  have q8 := cell_block HCk.out 8
  have q9 := cell_block HCk.out 9
  have qf := free_block HCk.out
  have qs := lt_of_some HCk.out
  simp at q0 q1 q2 q3 q4 q5 q6 q7 q8 q9
  have hne : ¬ w.heap.size = cb := by omega
  go_wp2
  obtain ⟨uv7,hu7,hd7⟩ := HC7.out.vw
  have hV7 : Vw lo V (codeOf fnd m f lk0).lk uv7 w7 := by have := hu7; simp only [HCV.out] at this; exact this
  have hd7' : ∀ k,VHas V uv7 k → k ≠ cb ∧ sv7.ownBlock ≠ some k ∧ (Value.slice ka kn kc).ownBlock ≠ some k ∧ (Value.slice la ln lc).ownBlock ≠ some k ∧ (k = V.b ∨ uv7.ownBlock = some k → ¬ (T1 k ∨ (Value.slice pa pn pc').ownBlock = some k)) := by have := hd7; simp only [HCV.out] at this; exact this
  have hvp : ∀ k,VHas V uv7 k → (Value.slice pa pn pc').ownBlock ≠ some k := fun k hk e => by
    rcases hk with hk | hk | hk
    · exact (hd7' k (Or.inl hk)).2.2.2.2 (Or.inl hk) (Or.inr e)
    · exact (HPt.out k e).2 (HTi1.out k (by rw [HCV.out]; exact hk))
    · exact (hd7' k (Or.inr (Or.inr hk))).2.2.2.2 (Or.inr hk) (Or.inr e)
  have hvr : ∀ k,VHas V uv7 k → k ≠ w.heap.size := fun k hk e => by
    rcases hk with hk | hk | hk
    · omega
    · have := HTl.out k (HTi.out k hk); omega
    · exact (hd7' k (Or.inr (Or.inr hk))).2.2.2.2 (Or.inr hk) (Or.inl (e ▸ hrT))
  have hTT : ∀ k,T k → T1 k := fun k e => by rw [HT1.out]; exact Or.inl e
  refine bodyPost_ret (v := fnVal V.nm f.name f.pub (.slice pa pn pc') sig (codeOf fnd m f lk0).slots (.slice ka kn kc) (.slice la ln lc)) (by simp [results,Tryz.results116,go_sem,z0,z1,z2,z3,z4,z5,z6,z7,zs,fnVal]) rfl ⟨_,_,_,uv7,rfl,?_,vw_set8 hV7 hvr _ _ _ _ _ _ _ _,?_,?_,?_,?_,?_⟩
  · exact cel_set8 ((Cel.of ((Below.refl _ _).alloc (Nat.le_refl _) resObj) hlw HTl.out).trans (HB7.out.mono hTT)) hlw (fun e => by have := HTl.out _ e; omega) _ _ _ _ _ _ _ _
  · exact owns_set8 HPe.out (fun e => (HPt.out _ e).2 hrT) _ _ _ _ _ _ _ _
  · exact owns_set8 HC7.out.cod (fun e => HC7.out.t2 _ e (Or.inl hrT)) _ _ _ _ _ _ _ _
  · exact owns_set8 HC7.out.cal (fun e => HC7.out.t3 _ e (Or.inl hrT)) _ _ _ _ _ _ _ _
  · rintro k (e | e | e)
    · exact ⟨fun ht => (HPt.out k e).2 (hTT k ht),fun hv => hvp k hv e⟩
    · exact ⟨fun ht => HC7.out.t2 k e (Or.inl (hTT k ht)),fun hv => (hd7' k hv).2.2.1 e⟩
    · exact ⟨fun ht => HC7.out.t3 k e (Or.inl (hTT k ht)),fun hv => (hd7' k hv).2.2.2.1 e⟩
  intro k e ht
  exact (hd7' k (e.elim Or.inl (fun e => Or.inr (Or.inr e)))).2.2.2.2 e (Or.inl (hTT k ht))
end Go.Proofs.YtpmmjkiclngpmaaGreatDoor
