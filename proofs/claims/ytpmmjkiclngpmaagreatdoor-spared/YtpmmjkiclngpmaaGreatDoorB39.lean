/- YtpmmjkiclngpmaaGreatDoorB39 -/
import Derived.Test.YtpmmjkiclngpmaaGreatDoorB38
import Derived.Test.YtpmmjkiclngpmaaGreatDoorB33
set_option maxRecDepth 100000
set_option linter.unusedSimpArgs false
set_option linter.unusedVariables false
set_option maxHeartbeats 12800000
namespace Go.Proofs.YtpmmjkiclngpmaaGreatDoor
open Go.RowKit
theorem obj_new {lo B : Nat} {w6 w7 : World} {p : SP} {Z : Nat → Prop} {fv uv : Value} {t : List UInt8} {fs : List CF} {us : List Us} {xs : List Value} (hlo : ∀ k,p.out k → k < lo) (hB : lo ≤ B) (hB6 : B ≤ w6.heap.size) (hr6 : w6.ownsRow B 92 8 fv fs.length xs)
    (hfa : FnsAt (fun k => B ≤ k ∧ Z k) w6 xs fs) (hb7 : Below w6.heap.size w6 w7) (hr7 : w7.ownsRow w6.heap.size 185 3 uv us.length (useCells us)) : ObAt (fun k => ¬ p.out k) w7 (.agg #[.string ⟨t.toArray⟩,fv,uv]) ⟨t,fs,us⟩ := by
  refine ⟨fv,uv,rfl,⟨xs,CRow.of (owr_keep hr6 (fun k _ l => hb7.block k l)) (fun k e ho => ?_),hfa.keep fun k hk hl => ⟨fun ho => ?_,hb7.block k hl⟩⟩,CRow.of hr7 (fun k e ho => ?_)⟩
  · have := (owns_block hr6 k e).1; have := hlo k ho; omega
  · have := hk.1; have := hlo k ho; omega
  · have := (owns_block hr7 k e).1; have := hlo k ho; omega
theorem StAt.obj2 {w w' : World} {p : SP} {n : Nm} {L : List Md} {cs : List Nm} {im : Option (List CF)} (h : StAt w p ⟨objM n none L,cs,im⟩) (hr : Rising (names L)) (hn : n ∈ names L) (o : Ob) {ov : Nm → Value} {v : Value} (hm : MapF Tryz.prog w' 9 p.ob (putB n (haves (objM n none L))) (updF ov n v)) (hg : w.grownBy w' (some p.ob))
    (hob : ∀ m ∈ objM n none L,∀ o,m.obj = some o → ObAt (fun k => ¬ p.out k) w (ov m.name) o) (hx : ObAt (fun k => ¬ p.out k) w v o) : ButS p.own w w' ∧ StAt w' p ⟨objM n (some o) L,cs,im⟩ := by
  have := h.objx n (some o) (ov' := updF ov n v) (by show MapF _ _ _ _ (haves (objM n (some o) (objM n none L))) _; rw [haves_objM_some (by rw [names_objM]; exact hr) (by rw [names_objM]; exact hn)]; exact hm) hg (fun x hx hne o ho => by rw [updF_other _ _ hne]; exact hob x hx o ho) (fun o' ho => by cases ho; rw [updF_same]; exact hx)
  refine ⟨this.1,?_⟩
  have h2 := this.2
  simp only [objM_objM] at h2
  exact h2
theorem stCompile_any {lo : Nat} {w : World} {p : SP} {s : Sto} (h : StAt w p s) {fb : Nat} {tr : Nm → Option (Nat × Mod)} (hf : FormsI lo w fb s.L tr) (hlo : ∀ k,p.own k → k < lo) (hex : ∀ k,p.ex k → k < w.heap.size) (hcs : ∀ x ∈ s.comp,x ∈ names s.L) (m : Md) (hm : m ∈ s.L) :
    Calls Tryz.prog 46 #[.pointer (some ⟨p.sb,0,none⟩),.map (some fb),.string ⟨m.name.toArray⟩] w fun e w' =>
      e = .returned (.tuple #[.int .i64 ((compM (formE s.L) m).1.1 : Int),.int .i64 ((compM (formE s.L) m).1.2 : Int)]) ∧ ButS p.own w w' ∧ StAt w' p (compS s m) := by
  obtain ⟨c0,c1,c2,hl⟩ := h.field
  have hsm := h.small m hm
  have hml : m.name.length ≤ maxLen := by unfold maxLen; omega
  have hin : m.name ∈ names s.L := List.mem_map.2 ⟨m,hm,rfl⟩
  have hfew := h.few
  have hcr := h.comp.rising strK
  have HPl := hide (show (putB m.name s.comp).length ≤ 8 from by
    have := rising_len hcr.putB (r := names s.L) (fun x hx => (mem_putB.1 hx).elim (fun e => by rw [e]; exact hin) (hcs x))
    rw [List.length_map] at this; omega)
  have HLm := hide (show s.comp.length < maxLen by unfold maxLen; omega)
  have HKy := hide (key_str hml)
  have HS := hide h
  have HF := hide hf
  have HLo := hide hlo
  have HEx := hide hex
  have HSm := hide h.small
  have HIn := hide hin
  have HNow := hide (nowOf_of h.rising hm)
  have HGet := hide (getM_of h.rising hm)
  have hsb := h.sbmap
  have HR := hide h.rising
  clear h hf hlo hex hcs hcr hin hfew hm
  go_enter Tryz.func46,Tryz.ntmps46
  go_wp2_with (at_mapUpdate; refine wpList_put_f _ rfl _ _ _ 81 rfl 9 157 strK und_unit p.cb s.comp (fun _ => .agg #[]) rfl HS.out.comp HLm.out (.string ⟨m.name.toArray⟩) (.agg #[]) m.name rfl rfl HKy.out ?_)
  intro w1 hm1 hg1
  obtain ⟨b1,s1⟩ := HS.out.comp1 HPl.out (hm1.congr fun x _ => by unfold updF; split <;> rfl) hg1
  have HB1 := hide b1
  have HS1 := hide s1
  obtain ⟨d0,d1,d2,dl⟩ := s1.field
  obtain ⟨ov,hov,hob⟩ := s1.objs
  have HOv := hide hov
  have HOb := hide hob
  clear hm1 hg1 b1 s1 hov hob c0 c1 c2 hl
  go_wp2_with (at_delete; refine wpList_delete_f _ rfl _ _ 80 9 rfl 154 strK und_obj p.ob (haves s.L) ov rfl HOv.out (.string ⟨m.name.toArray⟩) m.name rfl HKy.out ?_)
  intro w2 hm2 hg2
  obtain ⟨b2,s2⟩ := HS1.out.objx m.name none (by show MapF _ _ _ _ (haves (objM m.name none s.L)) ov; rw [haves_objM_none HR.out]; exact hm2) hg2 (fun x hx _ o ho => HOb.out x hx o ho) (fun o ho => by cases ho)
  have HB2 := hide (HB1.out.trans b2)
  have HF2 := hide (HF.out.buts HLo.out HB2.out)
  have HS2 := hide s2
  have hlk := HF2.out.look m.name hml
  clear hm2 hg2 b2 s2 d0 d1 d2 dl
  rcases htr : tr m.name with _ | ⟨mb,md⟩
  · have hfo : formOf m.now = none := by
      have := HF.out.is m.name
      rw [htr] at this
      unfold formE at this
      rw [HGet.out] at this
      exact this.symm
    have HV := hide (show compM (formE s.L) m = ((4,(parsed m.now).2.place),none) by unfold compM; rw [hfo])
    have hfl : (parsed m.now).2.failed = true := by
      unfold formOf at hfo
      split at hfo
      · next h => exact h
      · cases hfo
    have hpe : placeE s.L m.name = (parsed m.now).2.place := by unfold placeE; rw [HGet.out]; simp [hfl]
    rw [htr,hpe] at hlk
    unfold mptr at hlk
    simp only [Option.map_none] at hlk
    clear htr hfo hfl hpe
    go_wp2_with fail
    go_quiet (fail)
    go_wp2
    go_ret2
    have hb3 : Below w2.heap.size w2 ((w2.alloc (.cells #[.pointer none,.int .i64 ((parsed m.now).2.place : Int)] 107)).drewN nq) := ((Below.refl _ _).alloc (Nat.le_refl _) _).trans ((drewN_below _ nq).mono (by simp))
    exact ⟨by rw [HV.out]; rfl,HB2.out.trans (ButS.of_below hb3),by unfold compS; rw [HV.out]; exact HS2.out.below hb3⟩
  · have hE : formE s.L m.name = some md := by rw [← HF.out.is,htr]; rfl
    have hfo : formOf m.now = some md := by
      unfold formE at hE
      rw [HGet.out] at hE
      exact hE
    have HOk := hide (formE_ok HSm.out hE)
    rw [htr] at hlk
    unfold mptr at hlk
    simp only [Option.map_some] at hlk
    obtain ⟨X,hX⟩ : ∃ X,w2.alloc (.cells #[.pointer (some ⟨mb,0,none⟩),.int .i64 (placeE s.L m.name)] 107) = X := ⟨_,rfl⟩
    have hbX : Below w2.heap.size w2 X := by rw [← hX]; exact (Below.refl _ _).alloc (Nat.le_refl _) _
    have HBX := hide (HB2.out.trans (ButS.of_below hbX))
    have HSX := hide (HS2.out.below hbX)
    have HFX := hide (HF2.out.below hbX)
    have x0 : X.cell? ⟨w2.heap.size,0,none⟩ = some (.pointer (some ⟨mb,0,none⟩)) := by rw [← hX]; simp
    have xl : w2.heap.size < X.heap.size := by rw [← hX]; simp
    have HX := hide hX
    have HTr := hide htr
    have HVw := hide (view_any HFX.out HSm.out m.name hsm.1 mb md htr)
    have HVal := hide (show compM (formE s.L) m = (((chkE (formE s.L) md).code,(chkE (formE s.L) md).place),if (chkE (formE s.L) md).code = 0 then some ⟨m.now,(objE m.name (formE s.L) md).1,usesE m.name (formE s.L) md⟩ else none) by unfold compM; rw [hfo])
    clear htr hE hfo hX hbX
    go_wp2_with fail
    rw [HX.out]
    go_wp2_with fail
    refine HVw.out.mono ?_
    rintro e w4 ⟨iv,rfl,hb4,hv4⟩
    have HT4 := hide (HFX.out.trees HSm.out HTr.out iv hb4 X.heap.size)
    have hfk := HT4.out.findK
    rw [ims_eq HFX.out md] at hfk
    have HC := hide (checkModule_any 700 (fun k => k < X.heap.size) X.heap.size (fun k hk => hk) w4 _ md HT4.out.me _ hv4 hb4.size (by show (md.imports.map _).length = _; rw [List.length_map]) _ hfk HOk.out.ok)
    rw [show modK (lookE md (imsE (formE s.L) md)) 700 md (VK.pts ⟨X.heap.size,m.name,mb,iv,md.imports.map fun i => mptr (tr i.name)⟩) = chkE (formE s.L) md from chk_eq HFX.out md] at HC
    have HB4 := hide hb4
    clear hb4 hv4 hfk
    go_wp2_with fail
    refine HC.out.mono ?_
    rintro e w5 ⟨rfl,hb5,uv5,hv5⟩
    have HB5 := hide (HB4.out.trans hb5)
    have HV5 := hide hv5
    have HT5 := hide (HT4.out.below hb5)
    have HS5 := hide (HSX.out.below HB5.out)
    clear hb5 hv5
    by_cases h0 : (chkE (formE s.L) md).code = 0
    · have h1 : ((chkE (formE s.L) md).code : Int) = 0 := by omega
      have HD := hide (show compM (formE s.L) m = ((0,(chkE (formE s.L) md).place),some ⟨m.now,(objE m.name (formE s.L) md).1,usesE m.name (formE s.L) md⟩) by rw [HVal.out,if_pos h0,h0])
      have HLk := hide (show ∀ wq,StAt wq p ⟨objM m.name none s.L,putB m.name s.comp,s.img⟩ → (Instr.lookup 79 (.map (some p.mb)) (.string ⟨m.name.toArray⟩) false).run Tryz.prog wq = .ok (.agg #[.string ⟨m.now.toArray⟩]) wq from fun wq hq => by
        have := hq.mods.look strK und_kept (Tryz.zeroValue129 _) HKy.out
        rw [if_pos (show m.name ∈ names (objM m.name none s.L) by rw [names_objM]; exact HIn.out)] at this
        unfold txtV at this
        rw [nowOf_objM,HNow.out] at this
        exact this)
      have hl5 := HLk.out _ (HS5.out.below (w' := w5.drew) ((Below.refl _ _).drew))
      obtain ⟨e0,e1,_,el⟩ := HS5.out.field
      have hk0 := fieldk0
      have HLh := hide (show (haves (objM m.name none s.L)).length < maxLen from by
        have h1 : (haves (objM m.name none s.L)).length ≤ (objM m.name none s.L).length := by unfold haves; rw [List.length_map]; exact List.length_filter_le _ _
        have h2 := HS5.out.few.1
        have h3 : (objM m.name none s.L).length ≤ 8 := h2
        unfold maxLen; omega)
      have HCo := hide (show Calls Tryz.prog 77 #[.pointer (some ⟨X.heap.size,0,none⟩)] w5.drew fun e w' => ∃ fv uv xs,e = .returned (.agg #[fv]) ∧ Below X.heap.size w5.drew w' ∧ Vw X.heap.size ⟨X.heap.size,m.name,mb,iv,md.imports.map fun i => mptr (tr i.name)⟩ (objE m.name (formE s.L) md).2 uv w' ∧
          w'.ownsRow X.heap.size 92 8 fv (objE m.name (formE s.L) md).1.length xs ∧ FnsAt (fun k => X.heap.size ≤ k ∧ ¬ VHas ⟨X.heap.size,m.name,mb,iv,md.imports.map fun i => mptr (tr i.name)⟩ uv k) w' xs (objE m.name (formE s.L) md).1 ∧ ∀ k,fv.ownBlock = some k → ¬ VHas ⟨X.heap.size,m.name,mb,iv,md.imports.map fun i => mptr (tr i.name)⟩ uv k from
        compile_any 700 (fun k => k < X.heap.size) X.heap.size w5.drew _ _ uv5 HV5.out.drew (fun k hk => hk) md (HT5.out.below (w' := w5.drew) ((Below.refl _ _).drew)).me (fndE m.name md (imsE (formE s.L) md)) (knownV md (imsE (formE s.L) md))
        (fun C tb wq q1 q2 hb => by have := HT5.out.findC C tb wq q1 q2 (((Below.refl _ w5).drew).trans hb); rw [ims_eq HFX.out md] at this; exact this)
        (by have := HOk.out.fl; omega) (chk_known HOk.out h0) (fun f hf => by have := (HOk.out.fs f hf).pl; have := (HOk.out.fs f hf).body.siz (700 + 1); omega) (fun f hf => by have := (HOk.out.fs f hf).pl; omega) (chk_len HOk.out))
      have HUs := hide (show ∀ (wq : World) (uv : Value),Below X.heap.size w5 wq → Vw X.heap.size ⟨X.heap.size,m.name,mb,iv,md.imports.map fun i => mptr (tr i.name)⟩ (objE m.name (formE s.L) md).2 uv wq → Calls Tryz.prog 78 #[.pointer (some ⟨X.heap.size,0,none⟩)] wq fun e w' => ∃ v',e = .returned v' ∧ Below wq.heap.size wq w' ∧
          w'.ownsRow wq.heap.size 185 3 v' (usesE m.name (formE s.L) md).length (useCells (usesE m.name (formE s.L) md)) from fun wq uv hb hv =>
        uses_any wq _ _ uv hv md _ (HT5.out.below hb) (obj_len HOk.out) (sfE (formE s.L)) (seen_all HOk.out) (fun j g1 g2 => by
          show seenT (((md.imports.map fun i => tr i.name)[j]).map Prod.snd) [] = sfE (formE s.L) (md.imports[j].name,[])
          rw [List.getElem_map,HFX.out.is]; rfl))
      have HX5 := hide (show X.heap.size ≤ w5.heap.size from HB5.out.size)
      have HOut := hide (show ∀ k,p.out k → k < X.heap.size from fun k hk => by
        have := HFX.out.low; have := HFX.out.map.lt; have h3 := HBX.out.size
        rcases hk with hk | hk
        · have := HLo.out k hk; omega
        · have := HEx.out k hk; omega)
      clear h0
      generalize (chkE (formE s.L) md).code = cd at *
      generalize hob' : objE m.name (formE s.L) md = ob at *
      generalize hus' : usesE m.name (formE s.L) md = us at *
      go_wp2_with fail
      go_region_law (first
        | (refine step_call rfl 77 #[.tmp 53] #[158] rfl Tryz.call77 #[.pointer (some ⟨X.heap.size,0,none⟩)] ?_ HCo.out ?_; (simp [Act.eval,Act.put]); rintro e w6 ⟨fv,uv6,xs,rfl,hb6,hv6,hr6,hfa6,hne6⟩; obtain ⟨fo,fc,rfl⟩ := owns_shape' hr6; refine ⟨_,rfl,?_⟩; have HB6 := hide (show Below X.heap.size w5 w6 from ((Below.refl _ w5).drew).trans hb6); have HV6 := hide hv6; have HR6 := hide hr6; have HFa6 := hide hfa6; have HX6 := hide (show X.heap.size ≤ w6.heap.size from by have := HB6.out.size; have := HX5.out; omega); have HS6 := hide (HSX.out.below (HB5.out.trans HB6.out)); obtain ⟨f0,f1,_,fl⟩ := HS6.out.field; have hl6 := HLk.out _ HS6.out; clear hb6 hv6 hr6 hfa6 hne6)
        | (refine step_call rfl 78 #[.tmp 55] #[158] rfl Tryz.call78 #[.pointer (some ⟨X.heap.size,0,none⟩)] ?_ (HUs.out w6 uv6 HB6.out HV6.out) ?_; (simp [Act.eval,Act.put]); rintro e w7 ⟨v7,rfl,hb7,hr7⟩; obtain ⟨uo,uc,rfl⟩ := owns_shape' hr7; refine ⟨_,rfl,?_⟩; have HB7 := hide hb7; have HR7 := hide hr7; have HS7 := hide (HS6.out.below hb7); obtain ⟨g0,g1,_,gl⟩ := HS7.out.field; have hl7 := HLk.out _ HS7.out; obtain ⟨ov7,hov7,hob7⟩ := HS7.out.objs; have HOb7 := hide hob7; obtain ⟨w8,hrun8,hm8,hg8⟩ := hov7.put strK und_obj HLh.out (val := .agg #[.string ⟨m.now.toArray⟩,.slice fo ob.1.length fc,.slice uo us.length uc]) HKy.out; have HM8 := hide hm8; have HG8 := hide hg8; clear hb7 hr7 hov7 hob7 hm8 hg8))
      all_goals
        (try go_wp2_with fail)
        have HFin := hide (HS7.out.obj2 HR.out HIn.out ⟨m.now,ob.1,us⟩ HM8.out HG8.out HOb7.out (obj_new HOut.out (Nat.le_refl _) HX6.out HR6.out HFa6.out HB7.out HR7.out))
        go_ret2
        exact ⟨by rw [HD.out]; rfl,(HBX.out.trans (ButS.of_below (HB5.out.trans HB6.out))).trans ((ButS.of_below HB7.out).trans HFin.out.1),by unfold compS; rw [HD.out]; exact HFin.out.2⟩
    · have HD := hide (show compM (formE s.L) m = (((chkE (formE s.L) md).code,(chkE (formE s.L) md).place),none) by rw [HVal.out,if_neg h0])
      have h1 : ¬ ((chkE (formE s.L) md).code : Int) = 0 := by omega
      go_wp2
      go_ret2
      exact ⟨by rw [HD.out]; rfl,HBX.out.trans (ButS.of_below HB5.out),by unfold compS; rw [HD.out]; exact HS5.out⟩
end Go.Proofs.YtpmmjkiclngpmaaGreatDoor
