/- YtpmmjkiclngpmaaGreatDoorB45 -/
import Derived.Test.YtpmmjkiclngpmaaGreatDoorB42
import Derived.Test.YtpmmjkiclngpmaaGreatDoorB39
import Derived.Test.YtpmmjkiclngpmaaGreatDoorB35
import Derived.Test.YtpmmjkiclngpmaaGreatDoorB44
import Derived.Laws.StructEq
import Derived.Test.YtpmmjkiclngpmaaGreatDoorB17
set_option maxRecDepth 100000
set_option linter.unusedSimpArgs false
set_option linter.unusedVariables false
set_option maxHeartbeats 12800000
namespace Go.Proofs.YtpmmjkiclngpmaaGreatDoor
open Go.RowKit Go.Maps
theorem new3_dg (w : World) (a b c : Value) (t : TypeId) : ∀ j u,[a,b,c][j]? = some u → (w.alloc (.cells #[a,b,c] t)).cell? ((⟨w.heap.size,0,none⟩ : Addr).add j) = some u := new3_cells w a b c t
theorem build_any {w : World} {p : SP} {s : Sto} (h : StAt w p s) (hex : ∀ k,¬ p.ex k) (hM : StM s) :
    Calls Tryz.prog 21 #[.pointer (some ⟨p.sb,0,none⟩)] w fun e w' => ∃ dv,e = .returned dv ∧ ButS p.own w w' ∧ StAt w' p (buildS s).2 ∧ w'.ownsRow w.heap.size 61 3 dv (buildS s).1.length (dgCells (buildS s).1) := by
  have hfew := h.few
  have hr := h.rising
  have HR := hide hr
  have HS := hide h
  have HSm := hide h.small
  have HM := hide hM
  have HEx := hide hex
  have HLt := hide (show ∀ k,p.own k → k < w.heap.size from fun k hk => h.lt hk)
  have HPa := hide (sparse_any h)
  obtain ⟨i0,hi,hz0,hz1,hz2⟩ := info_parts info_diag
  clear h hex hM hr
  go_enter Tryz.func21,Tryz.ntmps21
  go_wp2_with fail
  refine HPa.out.mono ?_
  rintro e wa ⟨fb,tr,rfl,hba,hfi⟩
  have HBa := hide hba
  have HFi := hide hfi
  have HKs := hide (keysF_any (some fb) wa)
  have HSo := hide (sortedF_any fb wa hfi.map (by rw [List.length_map]; omega))
  clear hba hfi
  go_wp2_with fail
  refine HKs.out.mono ?_
  rintro e wb ⟨rfl,rfl⟩
  go_wp2_with fail
  refine HSo.out.mono ?_
  rintro e wc ⟨nv,rfl,hnr,hbc⟩
  have hbc' : Below wa.heap.size wa wc := ((Below.refl _ _).alloc (Nat.le_refl _) _).trans hbc
  have HBc := hide (HBa.out.trans (hbc'.mono HBa.out.size))
  have HSc := hide (HS.out.below HBc.out)
  have HFc := hide (HFi.out.below hbc')
  rw [List.length_map] at hnr
  have HNr := hide hnr
  obtain ⟨no,nc,hnv⟩ := owns_shape' hnr
  subst hnv
  obtain ⟨c0,c1,c2,hl⟩ := HSc.out.field
  have hac := hbc'.size
  have hwa := HBa.out.size
  clear hbc hbc' hnr
  obtain ⟨wd,hrun,hmd,htu⟩ := HSc.out.comp.clear und_unit 0 (fun _ => .agg #[])
  have hgd := htu.grown
  obtain ⟨hbd,hsd⟩ := HSc.out.comp1 (ns := []) (by simp) hmd hgd
  have HBd := hide hbd
  have HFd := hide (HFc.out.buts HLt.out hbd)
  have HBl := hide (show Blt wd p s (.slice none 0 0) 0 wd from ⟨ButS.refl _ _,by
    have : stepS s 0 = { s with comp := [] } := by simp [stepS,mapTo,compL]
    rw [this]
    exact hsd.more (fun k => (Value.slice none 0 0).ownBlock = some k) fun k _ e => by simp [Value.ownBlock] at e,World.ownsRow_nil _ _ _ _⟩)
  have hcd := hbd.size
  have HNd := hide (owr_keep HNr.out fun k e l => hbd.block k l (fun ho => by have := (owns_block HNr.out k e).1; have := HLt.out k ho; omega))
  have HLd := hide (show ∀ k,p.own k → k < wd.heap.size from fun k hk => by have := HLt.out k hk; omega)
  clear hmd hgd hbd hsd htu
  go_wp2
  go_loopg [5,21] s.L.length (fun gk s5 i wr => ∃ j : Nat,gk + j = s.L.length ∧ i = .int .i64 j ∧ Hid (Blt wd p s s5 j wr))
  case atStart => exact ⟨0,by omega,rfl,HBl.out⟩
  obtain ⟨j,hj,rfl,HBr⟩ := hrel
  obtain ⟨so,sc,hsv⟩ := owns_shape' HBr.out.dia
  subst hsv
  have hszr := HBr.out.but.size
  by_cases hlt : j < s.L.length
  · have hlt' : (j : Int) < (s.L.length : Int) := by omega
    obtain ⟨nb,cap,cur,hvo,hnb0,hnb,hnc,_⟩ := owr_shape HNd.out (by omega)
    simp only [Value.slice.injEq,true_and] at hvo
    obtain ⟨rfl,rfl⟩ := hvo
    have hnbl := lt_of_some hnb
    have hnbo : ¬ p.own nb := fun ho => by have := HLt.out nb ho; omega
    have q0 := (World.cell?_of_block (a := ⟨nb,j,none⟩) (HBr.out.but.block nb hnbl hnbo)).trans ((owns_cell HNd.out j (by omega)).trans (names_at s.L j hlt))
    have hnbr : nb < wr.heap.size := by omega
    have hjc : j < nc := by omega
    have hmem := List.getElem_mem hlt
    have HMe := hide (stepS_mem s j hlt)
    have HFr := hide (show FormsI w.heap.size wr fb (stepS s j).L tr from (HFd.out.buts HLt.out HBr.out.but).congr (names_mapTo _ _ _) (fun n => congrFun (stepS_form s j).1 n) (fun n => congrFun (stepS_form s j).2 n))
    have HCu := hide (stCurrent_any HBr.out.st HFr.out s.L[j] HMe.out (fun o ho => (HM.out _ hmem o ho).og.ok))
    rw [(stepS_form s j).1] at HCu
    clear hnb
    go_wp2_with fail
    refine HCu.out.mono ?_
    rintro e w2 ⟨rfl,hb2⟩
    have HB2 := hide (HBr.out.below hb2)
    have HF2 := hide (HFr.out.below hb2)
    have hsz2 := hb2.size
    clear hb2
    rcases hcu : curr (formE s.L) s.L[j] with _ | _
    · have HSt := hide (stepS_comp HR.out j hlt hcu)
      have HCo := hide (stCompile_any HB2.out.st HF2.out (fun k hk => HLt.out k hk) (fun k hk => (owns_block HB2.out.dia k hk).2) (by
        show ∀ x ∈ compL (formE s.L) (s.L.take j),x ∈ names (mapTo (buildM (formE s.L)) s.L j)
        rw [names_mapTo]; exact compL_sub j) s.L[j] HMe.out)
      rw [(stepS_form s j).1,HSt.out] at HCo
      have HDi := hide (diagsL_snoc (E := formE s.L) j hlt)
      have HDm := hide (show diagM (formE s.L) s.L[j] = if (compM (formE s.L) s.L[j]).1.1 = 0 then none else some ⟨s.L[j].name,(compM (formE s.L) s.L[j]).1.1,(compM (formE s.L) s.L[j]).1.2⟩ by unfold diagM; rw [if_neg (by simp [hcu])])
      generalize hgm : s.L[j] = m at *
      generalize hgc : compM (formE s.L) m = cm at *
      have hdl : (diagsL (formE s.L) (s.L.take j)).length ≤ 8 := by have := diagsL_len (E := formE s.L) (L := s.L.take j); rw [List.length_take] at this; omega
      generalize hgd : diagsL (formE s.L) (s.L.take j) = dg at *
      have HDg := hide hgd
      have HDb := hide HB2.out.dia
      rw [hgd] at HDb
      clear hgd
      go_wp2_with fail
      refine HCo.out.mono ?_
      rintro e w3 ⟨rfl,hb3,hs3⟩
      have HD3 := hide (owr_keep HDb.out fun k e l => hb3.block k l (fun ho => by have := (owns_block HDb.out k e).1; have := HLd.out k ho; omega))
      have HU3 := hide (show ButS p.own wd w3 from HB2.out.but.trans hb3)
      have HS3 := hide hs3
      have hs3z := HU3.out.size
      clear hb3 hs3
      by_cases hcd : cm.1.1 = 0
      · have HB4 := hide (show Blt wd p s (.slice so dg.length sc) (j + 1) w3 from ⟨HU3.out,HS3.out,by rw [HDi.out,HDm.out,if_pos hcd]; simpa using HD3.out⟩)
        have hcd' : (cm.1.1 : Int) = 0 := by omega
        go_wp2
        go_roundg (gk - 1)
        case measure => omega
        case rel => exact ⟨j + 1,by omega,by first | rfl | go_num,HB4.out⟩
      · have hcd' : ¬ (cm.1.1 : Int) = 0 := by omega
        have b1 : dg.length + 1 ≤ maxLen := by unfold maxLen; omega
        have b2 : (dg.length + 1) * 32 ≤ 140737488355328 := by omega
        go_wp2_with (at_builtin; refine app_where _ rfl _ _ 46 rfl wd.heap.size 61 i0 (.agg #[.string ⟨#[]⟩,.int .i64 0,.int .i64 0]) 3 32 Tryz.underlying46 hi hz0 hz1 hz2 rfl (by decide) (.slice so dg.length sc) dg.length (dgCells dg) rfl (HD3.out.alloc _) ⟨w3.heap.size,0,none⟩ 1 1 [.string ⟨m.name.toArray⟩,.int .i64 (cm.1.1 : Int),.int .i64 (cm.1.2 : Int)] rfl rfl (new3_dg w3 _ _ _ _) ?h1 (by omega) b1 b2 ?h2 ?_)
        case h1 =>
          intro u hu
          simp only [List.mem_cons,List.not_mem_nil,or_false] at hu
          rcases hu with rfl | rfl | rfl <;> rfl
        case h2 => simp; omega
        intro g' cap' w4 hown hgrow hwhere
        have HB4 := hide (show Blt wd p s (.slice (some ⟨g',0,none⟩) (dg.length + 1) cap') (j + 1) w4 from
          Blt.tell HLd.out HU3.out HS3.out HD3.out (grown_alloc hgrow) (by
            rw [HDi.out,HDm.out,if_neg hcd]
            show World.ownsRow _ _ _ _ _ (dg ++ [_]).length (dgCells (dg ++ [_]))
            rw [List.length_append,dgCells_snoc]; exact hown) (fun k e => by
            have e' : g' = k := by simpa [Value.ownBlock] using e
            subst e'
            rcases hwhere with q | q
            · exact Or.inl q
            · exact Or.inr (by first | omega | (simp at q; omega))))
        clear hown hgrow hwhere
        go_wp2
        go_roundg (gk - 1)
        case measure => omega
        case rel => exact ⟨j + 1,by omega,by first | rfl | go_num,HB4.out⟩
    · have HSt := hide (stepS_keep HR.out j hlt hcu)
      have HDi := hide (show diagsL (formE s.L) (s.L.take (j + 1)) = diagsL (formE s.L) (s.L.take j) by rw [diagsL_snoc j hlt]; simp [diagM,hcu])
      have HB3 := hide (show Blt wd p s _ (j + 1) w2 from ⟨HB2.out.but,by rw [HSt.out]; exact HB2.out.st,by rw [HDi.out]; exact HB2.out.dia⟩)
      go_wp2
      go_roundg (gk - 1)
      case measure => omega
      case rel => exact ⟨j + 1,by omega,by first | rfl | go_num,HB3.out⟩
  have hlt' : ¬ (j : Int) < (s.L.length : Int) := by omega
  have hje : j = s.L.length := by omega
  have HDn := hide (show diagsL (formE s.L) (s.L.take j) = (buildS s).1 by rw [hje,List.take_length]; rfl)
  have HSn := hide (show stepS s j = ⟨(buildS s).2.L,(buildS s).2.comp,s.img⟩ by rw [hje]; simp [stepS,mapTo,buildS])
  have hdia := HBr.out.dia
  rw [HDn.out] at hdia
  have hst := HBr.out.st
  rw [HSn.out] at hst
  rw [HDn.out] at hst ⊢
  have HDia := hide hdia
  have HSt := hide hst
  have HBu := hide HBr.out.but
  obtain ⟨ip0,hb0',him0⟩ := hst.blk
  have hb0 : wr.heap[p.sb]? = some (.cells #[.map (some p.mb),.map (some p.ob),.map (some p.cb),.pointer ip0] 84 (0,0)) := hb0'
  have hsbl := lt_of_some hb0
  have hsbf := free_block hb0
  have z3 := cell_block hb0 3
  simp at z3
  have hlen8 : (buildS s).1.length ≤ 8 := by show (diagsL _ _).length ≤ 8; have := diagsL_len (E := formE s.L) (L := s.L); omega
  have HI1 := hide (show ButS p.own wr (wr.setCell ⟨p.sb,3,none⟩ (.pointer none)) ∧ StAt (wr.setCell ⟨p.sb,3,none⟩ (.pointer none)) (p.with (.slice so (buildS s).1.length sc)) ⟨(buildS s).2.L,(buildS s).2.comp,none⟩ from hst.img1 (ip := none) (im := none) rfl)
  have HNr2 := hide (show (wr.setCell ⟨p.sb,3,none⟩ (.pointer none)).ownsRow wa.heap.size 9 1 (.slice no s.L.length nc) s.L.length (strCs (names s.L)) from
    owr_keep HNd.out fun k e l => by
      have hk := (owns_block HNd.out k e).1
      have hno : ¬ p.own k := fun ho => by have := HLt.out k ho; omega
      exact (Below.heap_setCell _ _ _ _ (fun e' => hno (Or.inl e'))).trans (HBr.out.but.block k l hno))
  have HDi2 := hide (owns_set_other hdia (b := p.sb) (fun e => by have := (owns_block hdia _ e).1; have := HLd.out p.sb (Or.inl rfl); omega) 3 (.pointer none))
  have HB0 := hide (show ButS p.own w wr from ((ButS.of_below HBc.out).trans HBd.out).trans HBr.out.but)
  have hzz : (wr.setCell ⟨p.sb,3,none⟩ (.pointer none)).heap.size = wr.heap.size := by simp [World.setCell]
  clear hdia hst hb0 hb0' him0
  by_cases hd : (buildS s).1 = []
  · have hd0 : (buildS s).1.length = 0 := by rw [hd]; rfl
    have hd0' : ((buildS s).1.length : Int) = 0 := by omega
    have HIm := hide (show (buildS s).2.img = some (linkP ((buildS s).2.L.map funsOf)) by
      show (if diagsL (formE s.L) s.L = [] then _ else _) = _
      rw [if_pos (show diagsL (formE s.L) s.L = [] from hd)]; rfl)
    have hfin : ∀ f ∈ ((buildS s).2.L.map funsOf).flatten,CFok f := fun f hf => by
      obtain ⟨l,hl,hf⟩ := List.mem_flatten.1 hf
      obtain ⟨m,hm,rfl⟩ := List.mem_map.1 hl
      unfold funsOf at hf
      rcases ho : m.obj with _ | o
      · rw [ho] at hf; cases hf
      · rw [ho] at hf
        exact ((HM.out.build HSm.out) m hm o ho).og.cf f hf
    have hflat : ((buildS s).2.L.map funsOf).flatten.length ≤ 100000 := by
      have key : ∀ l : List Md,(∀ m ∈ l,(funsOf m).length ≤ 601) → (l.map funsOf).flatten.length ≤ 601 * l.length := by
        intro l
        induction l with
        | nil => intro _; simp
        | cons x r ih =>
          intro hx
          have a := ih (fun m hm => hx m (by simp [hm]))
          have b := hx x (by simp)
          rw [List.map_cons,List.flatten_cons,List.length_append,List.length_cons]
          omega
      have h1 := key (buildS s).2.L (fun m hm => by
        unfold funsOf
        rcases ho : m.obj with _ | o
        · simp
        · exact ((HM.out.build HSm.out) m hm o ho).og.fl)
      have h2 : (buildS s).2.L.length = s.L.length := by show (s.L.map _).length = _; rw [List.length_map]
      omega
    have hnb : names (buildS s).2.L = names s.L := by
      have := names_mapTo (formE s.L) s.L s.L.length
      unfold mapTo at this
      rw [List.take_length,List.drop_length,List.append_nil] at this
      exact this
    have hlb : (buildS s).2.L.length = s.L.length := by show (s.L.map _).length = _; rw [List.length_map]
    have HLk := hide (show Calls Tryz.prog 47 #[.pointer (some ⟨p.sb,0,none⟩),.slice no s.L.length nc] (wr.setCell ⟨p.sb,3,none⟩ (.pointer none)) _ from stLink_any (s := ⟨(buildS s).2.L,(buildS s).2.comp,none⟩) HI1.out.2 (.slice no s.L.length nc) wa.heap.size (by show World.ownsRow _ _ _ _ _ (buildS s).2.L.length (strCs (names (buildS s).2.L)); rw [hnb,hlb]; exact HNr2.out) (fun k hk => by rw [hzz]; exact (owns_block HDia.out k hk).2) (diags_none hd) hflat hfin)
    clear hfin hflat hnb hlb
    generalize hgn : (buildS s).1.length = dn at *
    go_wp2_with fail
    refine HLk.out.mono ?_
    rintro e w5 ⟨ib,fv,rfl,hb5,hib,hblk5,hfn5⟩
    have hIm : ImAt (fun k => ¬ (p.with (.slice so dn sc)).out k) w5 (some ⟨ib,0,none⟩) (some (linkP ((buildS s).2.L.map funsOf))) := ⟨ib,fv,rfl,hib,hblk5,hfn5⟩
    have HI5 := hide (show ButS p.own w5 (w5.setCell ⟨p.sb,3,none⟩ (.pointer (some ⟨ib,0,none⟩))) ∧ StAt (w5.setCell ⟨p.sb,3,none⟩ (.pointer (some ⟨ib,0,none⟩))) (p.with (.slice so dn sc)) ⟨(buildS s).2.L,(buildS s).2.comp,some (linkP ((buildS s).2.L.map funsOf))⟩ from (HI1.out.2.below hb5).img1 hIm)
    obtain ⟨ip5,hb5',_⟩ := (HI1.out.2.below hb5).blk
    have hb50 : w5.heap[p.sb]? = some (.cells #[.map (some p.mb),.map (some p.ob),.map (some p.cb),.pointer ip5] 84 (0,0)) := hb5'
    have y3 := cell_block hb50 3
    have yl := lt_of_some hb50
    have yf := free_block hb50
    simp at y3
    have HDi5 := hide (owns_set_other (owr_keep HDi2.out fun k _ l => hb5.block k l) (b := p.sb) (fun e => by have := (owns_block HDi2.out _ e).1; have := HLd.out p.sb (Or.inl rfl); omega) 3 (.pointer (some ⟨ib,0,none⟩)))
    have HB5 := hide ((HB0.out.trans HI1.out.1).trans (ButS.of_below hb5))
    clear hb5 hib hblk5 hfn5 hIm hb5' hb50
    go_wp2
    go_ret
    refine ⟨_,rfl,HB5.out.trans HI5.out.1,?_,by
      have h5 := own_base (base' := w.heap.size) HDi5.out (by omega)
      rw [hgn,hd0]
      rw [hd0] at h5
      exact h5⟩
    have h2 := HI5.out.2.more p.ex (fun k _ e => absurd e (HEx.out k))
    have e2 : (⟨(buildS s).2.L,(buildS s).2.comp,some (linkP ((buildS s).2.L.map funsOf))⟩ : Sto) = (buildS s).2 := by rw [← HIm.out]
    rw [e2] at h2
    exact h2
  have hd0 : ¬ ((buildS s).1.length : Int) = 0 := fun e => hd (List.eq_nil_of_length_eq_zero (by omega))
  have HIm := hide (show (buildS s).2.img = none by
    show (if diagsL (formE s.L) s.L = [] then _ else _) = _
    rw [if_neg (show ¬ diagsL (formE s.L) s.L = [] from hd)])
  go_wp2
  go_ret
  refine ⟨_,rfl,HB0.out.trans HI1.out.1,?_,own_base HDi2.out (by omega)⟩
  have h2 := HI1.out.2.more p.ex (fun k _ e => absurd e (HEx.out k))
  have e2 : (⟨(buildS s).2.L,(buildS s).2.comp,none⟩ : Sto) = (buildS s).2 := by rw [← HIm.out]
  rw [e2] at h2
  exact h2
end Go.Proofs.YtpmmjkiclngpmaaGreatDoor
namespace Go.Proofs.YtpmmjkiclngpmaaGreatDoor
open Go.RowKit
theorem StM.set {s : Sto} (h : StM s) (n : Nm) (t : List UInt8) : StM (setS s n t).2 := by
  unfold setS
  split
  · exact h
  split
  · exact h
  intro m hm o ho
  rcases setM_mem hm with ⟨e1,e2,e3 | ⟨m0,e3,e4,e5⟩⟩ | ⟨e1,e2⟩
  · rw [e3] at ho; cases ho
  · rw [e1,← e4]; exact h m0 e3 o (by rw [← e5]; exact ho)
  exact h m e2 o ho
theorem lset_any {w : World} {p : SP} {s : Sto} (h : StAt w p s) (n : Nm) (hn : n.length ≤ 140737488355328) (t : List UInt8) (ht : t.length ≤ 140737488355328) :
    Calls Tryz.prog 15 #[.pointer (some ⟨p.sb,0,none⟩),.string ⟨n.toArray⟩,.string ⟨t.toArray⟩] w fun e w' => e = .returned (.bool (decide ((setS s n t).1 = 0))) ∧ ButS p.own w w' ∧ StAt w' p (setS s n t).2 := by
  have HS := hide (set_any h n hn t ht)
  clear h
  generalize setS s n t = r at *
  go_enter Tryz.func15,Tryz.ntmps15
  go_wp2_with fail
  refine HS.out.mono ?_
  rintro e w1 ⟨rfl,hb,hs⟩
  have HB := hide hb
  have HT := hide hs
  clear hb hs
  go_wp2
  go_ret
  exact ⟨ret_bool (by rw [Bool.eq_iff_iff]; simp),HB.out,HT.out⟩
theorem lclean_any {w : World} {p : SP} {s : Sto} (h : StAt w p s) (hex : ∀ k,¬ p.ex k) (hM : StM s) :
    Calls Tryz.prog 16 #[.pointer (some ⟨p.sb,0,none⟩)] w fun e w' => e = .returned (.bool (decide ((buildS s).1.length = 0))) ∧ ButS p.own w w' ∧ StAt w' p (buildS s).2 := by
  have HS := hide (build_any h hex hM)
  clear h hM
  generalize buildS s = r at *
  go_enter Tryz.func16,Tryz.ntmps16
  go_wp2_with fail
  refine HS.out.mono ?_
  rintro e w1 ⟨dv,rfl,hb,hs,hd⟩
  obtain ⟨so,sc,rfl⟩ := owns_shape' hd
  have HB := hide hb
  have HT := hide hs
  clear hb hs hd
  go_wp2
  go_ret
  exact ⟨ret_bool (by rw [Bool.eq_iff_iff]; simp; try omega),HB.out,HT.out⟩
theorem und_dg : Tryz.prog.underlying 61 = some (.struct (Tryz.prog.fieldsOf 61)) := by kernel_rfl
theorem held_dg : Tryz.prog.stoodInHeld 61 = false := by kernel_rfl
abbrev valD (d : Dg) : Value := .agg #[.string ⟨d.name.toArray⟩,.int .i64 (d.code : Int),.int .i64 (d.place : Int)]
def sameD (x y : Dg) : Bool := decide (x.name = y.name ∧ x.code = y.code ∧ x.place = y.place)
theorem equal_dg (x y : Dg) (w : World) : (Op.equalIn 10000 61 (valD x) (valD y)).run Tryz.prog w = .ok (sameD x y) w := by
  rw [show (10000 : Nat) = 9999 + 1 from rfl,run_equalIn_agg w 9999 61 _ _ und_dg held_dg]
  simp only [Program.fieldsOf,Tryz.underlying61]
  have u9 := Tryz.underlying9
  have a9 := Tryz.isAgg9
  have z9 := Tryz.sizeOf9
  have u3 := Tryz.underlying3
  have a3 := Tryz.isAgg3
  have z3 := Tryz.sizeOf3
  have u4 := Tryz.underlying41
  have a4 := Tryz.isAgg41
  have z4 := Tryz.sizeOf41
  go_simp
  unfold sameD
  by_cases h1 : x.name = y.name <;> by_cases h2 : x.code = y.code <;> by_cases h3 : x.place = y.place <;> simp [h1,h2,h3] <;> omega
theorem guard_dg (op : BinOp) (a b : Operand) (x y : Dg) (w : World) : (eqGuard op 61 a b (valD x) (valD y)).run Tryz.prog w = .ok () w := run_eqGuard_agg w op 61 a b _ _ (by kernel_rfl)
def onlyD (l : List Dg) (d : Dg) : Bool := match l with | [x] => sameD x d | _ => false
theorem lwrong_any {w : World} {p : SP} {s : Sto} (h : StAt w p s) (hex : ∀ k,¬ p.ex k) (hM : StM s) (d : Dg) :
    Calls Tryz.prog 18 #[.pointer (some ⟨p.sb,0,none⟩),.string ⟨d.name.toArray⟩,.int .i64 (d.code : Int),.int .i64 (d.place : Int)] w fun e w' => e = .returned (.bool (onlyD (buildS s).1 d)) ∧ ButS p.own w w' ∧ StAt w' p (buildS s).2 := by
  have HS := hide (build_any h hex hM)
  clear h hM
  have heq := fun (x : Dg) w => equal_dg x d w
  have hgu := fun op a b (x : Dg) w => guard_dg op a b x d w
  generalize buildS s = r at *
  go_enter Tryz.func18,Tryz.ntmps18
  go_wp2_with fail
  refine HS.out.mono ?_
  rintro e w1 ⟨dv,rfl,hb,hs,hd⟩
  have HB := hide hb
  have HT := hide hs
  rcases hl : r.1 with _ | ⟨x,_ | ⟨y,t⟩⟩
  · rw [hl] at hd
    obtain ⟨so,sc,rfl⟩ := owns_shape' hd
    have HV := hide (show onlyD r.1 d = false by rw [hl]; rfl)
    clear hb hs hd
    simp only [List.length_nil]
    go_wp2
    go_ret
    exact ⟨ret_bool HV.out.symm,HB.out,HT.out⟩
  · rw [hl] at hd
    obtain ⟨g,cap,cur,rfl,_,hg,hgc,_⟩ := owr_shape hd (by simp)
    have c0 := owns_cell hd 0 (by simp)
    have c1 := owns_cell hd 1 (by simp)
    have c2 := owns_cell hd 2 (by simp)
    have gl := lt_of_some hg
    simp [dgCells] at c0 c1 c2
    have HV := hide (show onlyD r.1 d = sameD x d by rw [hl]; rfl)
    have hq := heq x
    have hq2 := fun op a b w => hgu op a b x w
    simp only [List.length_cons,List.length_nil,Nat.zero_add] at hgc ⊢
    unfold valD at hq hq2
    clear hb hs hd hg heq hgu
    go_wp2
    go_ret
    exact ⟨ret_bool HV.out.symm,HB.out,HT.out⟩
  rw [hl] at hd
  obtain ⟨so,sc,rfl⟩ := owns_shape' hd
  have HV := hide (show onlyD r.1 d = false by rw [hl]; rfl)
  have hne : ¬ (((x :: y :: t).length : Nat) : Int) = 1 := by simp; omega
  clear hb hs hd
  generalize (x :: y :: t).length = n at *
  go_wp2
  go_ret
  exact ⟨ret_bool HV.out.symm,HB.out,HT.out⟩
end Go.Proofs.YtpmmjkiclngpmaaGreatDoor
namespace Go.Proofs.YtpmmjkiclngpmaaGreatDoor
open Go.RowKit
def begT : List UInt8 := [102,110,32,102,40,41,58,32,105,110,116,32,61,32,49,32,60,32,50,59]
def begS2 : Sto := ⟨[⟨[109],begT,none⟩],[],none⟩
def begS3 : Sto := ⟨[⟨[109],begT,none⟩],[[109]],none⟩
def begS4 : Sto := ⟨[⟨[109],[],none⟩],[[109]],none⟩
def begS5 : Sto := ⟨[⟨[109],[],some ⟨[],[],[]⟩⟩],[[109]],some []⟩
theorem beg1 : setS emptySto [102,110] [] = (1,emptySto) := by
  have : isNameT [102,110] = false := by kernel_rfl
  unfold setS; rw [if_pos this]
theorem beg2 : setS emptySto [109] begT = (0,begS2) := by
  have : isNameT [109] = true := by kernel_rfl
  unfold setS
  rw [if_neg (by rw [this]; simp),if_neg (by simp [emptySto]; decide)]
  rfl
theorem beg3 : buildS begS2 = ([⟨[109],8,14⟩],begS3) := by kernel_rfl
theorem beg4 : setS begS3 [109] [] = (0,begS4) := by
  have : isNameT [109] = true := by kernel_rfl
  unfold setS
  rw [if_neg (by rw [this]; simp),if_neg (by simp [begS3])]
  rfl
theorem beg5 : buildS begS4 = ([],begS5) := by
  have hc : compM (formE begS4.L) ⟨[109],[],none⟩ = ((0,0),some ⟨[],[],[]⟩) := by
    have h1 : formOf [] = some ⟨[],[]⟩ := by kernel_rfl
    have h2 : (chkE (formE begS4.L) ⟨[],[]⟩).code = 0 := by kernel_rfl
    have h3 : (chkE (formE begS4.L) ⟨[],[]⟩).place = 0 := by kernel_rfl
    have h4 : (objE [109] (formE begS4.L) ⟨[],[]⟩) = ([],[]) := by kernel_rfl
    have h5 : usesE [109] (formE begS4.L) ⟨[],[]⟩ = [] := by
      unfold usesE
      rw [h4]
      simp [usesOf,sortL,compactL]
    unfold compM
    simp only [h1]
    rw [h2,h3,if_pos rfl,h4,h5]
  have hb : buildM (formE begS4.L) ⟨[109],[],none⟩ = ⟨[109],[],some ⟨[],[],[]⟩⟩ := by
    unfold buildM
    rw [if_neg (by simp [curr]),hc]
  have hd : diagM (formE begS4.L) ⟨[109],[],none⟩ = none := by
    unfold diagM
    rw [if_neg (by simp [curr]),hc]; rfl
  have hL : diagsL (formE begS4.L) begS4.L = [] := by
    show List.filterMap (diagM (formE begS4.L)) [(⟨[109],[],none⟩ : Md)] = []
    simp [hd]
  have hM : begS4.L.map (buildM (formE begS4.L)) = [⟨[109],[],some ⟨[],[],[]⟩⟩] := by
    show [buildM (formE begS4.L) ⟨[109],[],none⟩] = _
    rw [hb]
  unfold buildS
  rw [hL,hM,if_pos rfl]
  rfl
theorem StM_none {s : Sto} (h : ∀ m ∈ s.L,m.obj = none) : StM s := fun m hm o ho => by rw [h m hm] at ho; cases ho
theorem beg_m2 : StM begS2 := StM_none (by intro m hm; simp [begS2] at hm; rw [hm])
theorem beg_m4 : StM begS4 := StM_none (by intro m hm; simp [begS4] at hm; rw [hm])
theorem beg_m5 : StM begS5 := by
  have h := beg_m4.build (fun m hm => by simp [begS4] at hm; rw [hm]; simp)
  rw [beg5] at h
  exact h
structure Begun (w : World) (p : SP) (s : Sto) (w' : World) : Prop where
  bel : Below w.heap.size w w'
  st : StAt w' p s
  own : ∀ k,p.own k → w.heap.size ≤ k
  ex : ∀ k,¬ p.ex k
  made : StM s
theorem Begun.step {w w1 w2 : World} {p : SP} {s s' : Sto} (h : Begun w p s w1) (hb : ButS p.own w1 w2) (hs : StAt w2 p s') (hm : StM s') : Begun w p s' w2 :=
  ⟨⟨hb.os.trans h.bel.os,hb.tape.trans h.bel.tape,hb.output.trans h.bel.output,Nat.le_trans h.bel.size hb.size,fun k hk => (hb.block k (by have := h.bel.size; omega) (fun ho => by have := h.own k ho; omega)).trans (h.bel.block k hk)⟩,hs,h.own,h.ex,hm⟩
theorem began_any (w : World) : Calls Tryz.prog 13 #[] w fun e w' => ∃ p : SP,e = .returned (.pointer (some ⟨p.sb,0,none⟩)) ∧ Begun w p begS5 w' := by
  have HN := hide (new_any w)
  go_enter Tryz.func13,Tryz.ntmps13
  go_wp2_with fail
  refine HN.out.mono ?_
  rintro e w1 ⟨p,rfl,hb1,hs1,ho1,hx1⟩
  have HB1 := hide (show Begun w p emptySto w1 from ⟨hb1,hs1,ho1,hx1,StM_none (fun m hm => by cases hm)⟩)
  clear hb1 hs1 ho1 hx1
  go_wp2_with fail
  refine (set_any HB1.out.st [102,110] (by decide) [] (by decide)).mono ?_
  rw [beg1]
  rintro e w2 ⟨rfl,hb2,hs2⟩
  have HB2 := hide (HB1.out.step hb2 hs2 HB1.out.made)
  clear hb2 hs2
  go_wp2_with fail
  refine (lset_any HB2.out.st [109] (by decide) begT (by decide)).mono ?_
  rw [beg2]
  rintro e w3 ⟨rfl,hb3,hs3⟩
  have HB3 := hide (HB2.out.step hb3 hs3 beg_m2)
  clear hb3 hs3
  go_wp2_with fail
  refine (lwrong_any HB3.out.st HB3.out.ex HB3.out.made ⟨[109],8,14⟩).mono ?_
  rw [beg3]
  rintro e w4 ⟨rfl,hb4,hs4⟩
  have HB4 := hide (HB3.out.step hb4 hs4 (StM_none (by intro m hm; simp [begS3] at hm; rw [hm])))
  clear hb4 hs4
  go_wp2_with fail
  refine (lset_any HB4.out.st [109] (by decide) [] (by decide)).mono ?_
  rw [beg4]
  rintro e w5 ⟨rfl,hb5,hs5⟩
  have HB5 := hide (HB4.out.step hb5 hs5 beg_m4)
  clear hb5 hs5
  go_wp2_with fail
  refine (lclean_any HB5.out.st HB5.out.ex HB5.out.made).mono ?_
  rw [beg5]
  rintro e w6 ⟨rfl,hb6,hs6⟩
  have HB6 := hide (HB5.out.step hb6 hs6 beg_m5)
  clear hb6 hs6
  have ho : onlyD [⟨[109],8,14⟩] ⟨[109],8,14⟩ = true := rfl
  simp only [ho]
  go_wp2
  go_ret
  exact ⟨p,rfl,HB6.out⟩
end Go.Proofs.YtpmmjkiclngpmaaGreatDoor
