/- YtpmmjkiclngpmaaGreatDoorB35 -/
import Derived.Test.YtpmmjkiclngpmaaGreatDoorB17
import Derived.Test.YtpmmjkiclngpmaaGreatDoorB13
import Derived.Test.YtpmmjkiclngpmaaGreatDoorB31
set_option maxRecDepth 100000
set_option linter.unusedSimpArgs false
set_option linter.unusedVariables false
set_option maxHeartbeats 12800000
namespace Go.Proofs.YtpmmjkiclngpmaaGreatDoor
open Go.RowKit
theorem strClone_any (s : ByteArray) (w : World) (hs : s.size ≤ 281474976710656) : Calls Tryz.prog 60 #[.string s] w fun e w' => e = .returned (.string s) ∧ Below w.heap.size w w' := by
  have hc : Calls Tryz.prog 98 #[.string s] w fun e w' => e = .returned (.string s) ∧ Below w.heap.size w w' := Any.stringslite_Clone Tryz.laysM316 s w hs
  go_enter Tryz.func60,Tryz.ntmps60
  go_wp2_with fail
  refine hc.mono ?_
  rintro e w' ⟨rfl,hb⟩
  have HB := hide hb
  clear hb
  go_wp2
  go_ret
  exact ⟨rfl,HB.out⟩
def setS (s : Sto) (n : Nm) (t : List UInt8) : Nat × Sto :=
  if isNameT n = false then (1,s) else if 600 < t.length ∨ (n ∉ names s.L ∧ 8 ≤ s.L.length) then (2,s) else (0,{ s with L := setM n t s.L })
theorem isNameT_len {n : Nm} (h : isNameT n = true) : n.length ≤ 8 := by
  unfold isNameT at h
  simp only [Bool.and_eq_true,decide_eq_true_eq] at h
  exact h.2.1
theorem StAt.set {w w' : World} {p : SP} {s : Sto} (h : StAt w p s) {n : Nm} {t : List UInt8} (hn : n.length ≤ 8) (ht : t.length ≤ 600) (hfew : n ∈ names s.L ∨ s.L.length < 8)
    (hm : MapF Tryz.prog w' 9 p.mb (putB n (names s.L)) (updF (txtV s.L) n (.agg #[.string ⟨t.toArray⟩]))) (hg : w.grownBy w' (some p.mb)) : StAt w' p { s with L := setM n t s.L } := by
  have hr := h.rising
  have hsb := h.sbmap
  have hbl : ∀ k,k < w.heap.size → k ≠ p.mb → w'.heap[k]? = w.heap[k]? := fun k hk hne => hg.block k hk (fun e => hne (by simpa using e))
  have hkeep : ∀ k,¬ p.out k → k < w.heap.size → ¬ p.out k ∧ w'.heap[k]? = w.heap[k]? := fun k h1 h2 => ⟨h1,hbl k h2 (fun e => h1 (Or.inl (Or.inr (Or.inl e))))⟩
  have hr' : Rising (names (setM n t s.L)) := by rw [names_setM hr]; exact hr.putB
  refine ⟨?_,?_,?_,?_,h.n1,h.n2,h.n3,⟨?_,h.few.2⟩,?_⟩
  · obtain ⟨ip,a,b⟩ := h.blk
    exact ⟨ip,(hbl _ (lt_of_some a) hsb.1).trans a,b.keep hkeep⟩
  · show MapF _ _ _ _ (names (setM n t s.L)) (txtV (setM n t s.L))
    rw [names_setM hr]
    refine hm.congr fun x hx => ?_
    have := setM_now (n := n) (t := t) hr (x := x) (by rw [names_setM hr]; exact hx)
    unfold updF txtV
    rw [this]
    split <;> rfl
  · obtain ⟨ov,a,b⟩ := h.objs
    refine ⟨ov,?_,fun m hm o ho => ?_⟩
    · show MapF _ _ _ _ (haves (setM n t s.L)) ov
      rw [haves_setM]
      exact a.keep (hbl _ a.lt h.n1.symm)
    · rcases setM_mem hm with ⟨e1,e2,e3 | ⟨m0,e3,e4,e5⟩⟩ | ⟨e1,e2⟩
      · rw [e3] at ho; cases ho
      · rw [e1,← e4]
        exact (b m0 e3 o (by rw [← e5]; exact ho)).keep hkeep
      · exact (b m e2 o ho).keep hkeep
  · exact h.comp.keep (hbl _ h.comp.lt h.n2.symm)
  · show (setM n t s.L).length ≤ 8
    have e : (names (setM n t s.L)).length = (setM n t s.L).length := by simp
    rw [← e,names_setM hr]
    rcases hfew with hin | hlt
    · rw [putB_in hr hin]; simpa using h.few.1
    · have := putB_len (n := n) (ns := names s.L)
      simp only [List.length_map] at this
      omega
  · intro m hm
    rcases setM_mem hm with ⟨e1,e2,_⟩ | ⟨e1,e2⟩
    · exact ⟨by rw [e1]; exact hn,by rw [e2]; exact ht⟩
    · exact h.small m e2
structure StBy (w0 : World) (p : SP) (s : Sto) (w : World) : Prop where
  bel : Below w0.heap.size w0 w
  st : StAt w p s
theorem StBy.go {w0 w w' : World} {p : SP} {s : Sto} (h : StBy w0 p s w) (hb : Below w.heap.size w w') : StBy w0 p s w' := ⟨h.bel.trans (hb.mono h.bel.size),h.st.below hb⟩
theorem set_any {w : World} {p : SP} {s : Sto} (h : StAt w p s) (n : Nm) (hn : n.length ≤ 140737488355328) (t : List UInt8) (ht : t.length ≤ 140737488355328) :
    Calls Tryz.prog 35 #[.pointer (some ⟨p.sb,0,none⟩),.string ⟨n.toArray⟩,.string ⟨t.toArray⟩] w fun e w' =>
      e = .returned (.int .i64 ((setS s n t).1 : Int)) ∧ ButS p.own w w' ∧ StAt w' p (setS s n t).2 := by
  have hml : n.length ≤ maxLen := by unfold maxLen; omega
  obtain ⟨c0,c1,c2,hl⟩ := h.field
  have HS := hide h
  have HNm := hide (show Calls Tryz.prog 59 #[.string ⟨n.toArray⟩] w fun e w' => e = .returned (.bool (isNameT n)) ∧ w' = w from isName_any ⟨n.toArray⟩ w)
  have HHas := hide (has_any h n hml)
  rcases hnm : isNameT n with _ | _
  · have HV := hide (show setS s n t = (1,s) by simp [setS,hnm])
    rw [HV.out]
    clear h
    go_enter Tryz.func35,Tryz.ntmps35
    go_wp2_with fail
    refine HNm.out.mono ?_
    rintro e w ⟨rfl,rfl⟩
    rw [hnm]
    go_wp2
    go_ret
    exact ⟨rfl,ButS.refl _ _,HS.out⟩
  · have hn8 := isNameT_len hnm
    by_cases h600 : 600 < t.length
    · have HV := hide (show setS s n t = (2,s) by simp [setS,hnm,h600])
      have h6 : (600 : Int) < (t.length : Int) := by omega
      rw [HV.out]
      clear h
      go_enter Tryz.func35,Tryz.ntmps35
      go_wp2_with fail
      refine HNm.out.mono ?_
      rintro e w ⟨rfl,rfl⟩
      rw [hnm]
      go_wp2
      go_ret
      exact ⟨rfl,ButS.refl _ _,HS.out⟩
    · have h6 : ¬ (600 : Int) < (t.length : Int) := by omega
      have hlen := h.mods.len und_kept
      have hlen' : (names s.L).length = s.L.length := by simp
      rw [hlen'] at hlen
      have hfew := h.few.1
      by_cases hbad : n ∉ names s.L ∧ 8 ≤ s.L.length
      · have HV := hide (show setS s n t = (2,s) by unfold setS; rw [if_neg (by simp [hnm]),if_pos (Or.inr hbad)])
        have h8 : (8 : Int) ≤ (s.L.length : Int) := by omega
        rw [HV.out]
        have hdec : decide (n ∈ names s.L) = false := by simpa using hbad.1
        clear h hbad
        go_enter Tryz.func35,Tryz.ntmps35
        go_wp2_with fail
        refine HNm.out.mono ?_
        rintro e w ⟨rfl,rfl⟩
        rw [hnm]
        go_wp2_with fail
        refine HHas.out.mono ?_
        rintro e w1 ⟨rfl,hb1⟩
        rw [hdec]
        have d0 := (below_cell hb1 hl 0).trans c0
        have hl1 : p.sb < w1.heap.size := by have := hb1.size; omega
        have HS1 := hide (HS.out.below hb1)
        have hlen1 := HS1.out.mods.len und_kept
        rw [hlen'] at hlen1
        have HB1 := hide hb1
        clear hb1 hlen
        go_wp2
        go_ret
        exact ⟨rfl,ButS.of_below HB1.out,HS1.out⟩
      · have HV := hide (show setS s n t = (0,{ s with L := setM n t s.L }) by unfold setS; rw [if_neg (by simp [hnm]),if_neg (by rintro (h | h); exact h600 h; exact hbad h)])
        rw [HV.out]
        have hfew' : n ∈ names s.L ∨ s.L.length < 8 := by
          by_cases hin : n ∈ names s.L
          · exact Or.inl hin
          · exact Or.inr (Nat.lt_of_not_le fun h => hbad ⟨hin,h⟩)
        have HSet := hide (fun (wa wb : World) (hst : StAt wa p s) => hst.set (w' := wb) hn8 (by omega : t.length ≤ 600) hfew')
        have HLim := hide (show (names s.L).length < maxLen by rw [hlen']; unfold maxLen; omega)
        have HKy := hide (key_str hml)
        have HT2 := hide (show (⟨t.toArray⟩ : ByteArray).size ≤ 281474976710656 by show t.toArray.size ≤ _; simp; omega)
        have HN2 := hide (show (⟨n.toArray⟩ : ByteArray).size ≤ 281474976710656 by show n.toArray.size ≤ _; simp; omega)
        have hcases : (∃ d,decide (n ∈ names s.L) = d ∧ (d = true ∨ ¬ (8 : Int) ≤ (s.L.length : Int))) := ⟨_,rfl,hfew'.elim (fun h => Or.inl (by simpa using h)) (fun h => Or.inr (by omega))⟩
        obtain ⟨d,hd,hd2⟩ := hcases
        have HD := hide hd
        have HD2 := hide hd2
        clear h hbad hfew' hd hd2
        go_enter Tryz.func35,Tryz.ntmps35
        go_wp2_with fail
        refine HNm.out.mono ?_
        rintro e w ⟨rfl,rfl⟩
        rw [hnm]
        go_wp2_with fail
        refine HHas.out.mono ?_
        rintro e w1 ⟨rfl,hb1⟩
        rw [HD.out]
        have d0 := (below_cell hb1 hl 0).trans c0
        have hl1 : p.sb < w1.heap.size := by have := hb1.size; omega
        have HS1 := hide (HS.out.below hb1)
        have hlen1 := HS1.out.mods.len und_kept
        rw [hlen'] at hlen1
        have HW := hide (show StBy w p s w1.drew from ⟨hb1.drew,HS1.out.below ((Below.refl _ _).drew)⟩)
        clear hb1 hlen
        rcases hdd : d with _ | _
        · subst hdd
          have h8 : ¬ (8 : Int) ≤ (s.L.length : Int) := HD2.out.elim (fun h => by cases h) (fun h => by omega)
          go_wp2_with fail
          go_region_law (first
            | (refine step_call rfl 60 #[.tmp 31] #[9] rfl Tryz.call60 #[.string ⟨n.toArray⟩] ?_ (strClone_any _ _ ?_) ?_; (simp [Act.eval,Act.put]); (exact HN2.out); rintro e w3 ⟨rfl,hb3⟩; refine ⟨_,rfl,?_⟩; have HW := hide (HW.out.go hb3); have d0 := HW.out.st.field.1; have hl1 := HW.out.st.field.2.2.2; clear hb3; obtain ⟨w5,hrun5,hm5,hg5⟩ := MapF.put (key := .string ⟨n.toArray⟩) (val := .agg #[.string ⟨t.toArray⟩]) HW.out.st.mods strK und_kept HLim.out HKy.out; have HM5 := hide (HSet.out _ w5 HW.out.st hm5 hg5); have HB5 := hide (ButS.trans (ButS.of_below (T := p.own) HW.out.bel) (ButS.of_grown hg5 (fun k e => Or.inl (Or.inr (Or.inl (by simpa using e.symm)))))); clear hm5 hg5)
            | (refine step_call rfl 60 #[.tmp 33] #[9] rfl Tryz.call60 #[.string ⟨t.toArray⟩] ?_ (strClone_any _ _ ?_) ?_; (simp [Act.eval,Act.put]); (exact HT2.out); rintro e w4 ⟨rfl,hb4⟩; refine ⟨_,rfl,?_⟩; have HW := hide (HW.out.go hb4); have d0 := HW.out.st.field.1; have hl1 := HW.out.st.field.2.2.2; clear hb4; obtain ⟨w5,hrun5,hm5,hg5⟩ := MapF.put (key := .string ⟨n.toArray⟩) (val := .agg #[.string ⟨t.toArray⟩]) HW.out.st.mods strK und_kept HLim.out HKy.out; have HM5 := hide (HSet.out _ w5 HW.out.st hm5 hg5); have HB5 := hide (ButS.trans (ButS.of_below (T := p.own) HW.out.bel) (ButS.of_grown hg5 (fun k e => Or.inl (Or.inr (Or.inl (by simpa using e.symm)))))); clear hm5 hg5))
          all_goals
            (try go_wp2_with fail)
            go_ret
            exact ⟨rfl,HB5.out,HM5.out⟩
        · subst hdd
          go_wp2_with fail
          go_region_law (first
            | (refine step_call rfl 60 #[.tmp 31] #[9] rfl Tryz.call60 #[.string ⟨n.toArray⟩] ?_ (strClone_any _ _ ?_) ?_; (simp [Act.eval,Act.put]); (exact HN2.out); rintro e w3 ⟨rfl,hb3⟩; refine ⟨_,rfl,?_⟩; have HW := hide (HW.out.go hb3); have d0 := HW.out.st.field.1; have hl1 := HW.out.st.field.2.2.2; clear hb3; obtain ⟨w5,hrun5,hm5,hg5⟩ := MapF.put (key := .string ⟨n.toArray⟩) (val := .agg #[.string ⟨t.toArray⟩]) HW.out.st.mods strK und_kept HLim.out HKy.out; have HM5 := hide (HSet.out _ w5 HW.out.st hm5 hg5); have HB5 := hide (ButS.trans (ButS.of_below (T := p.own) HW.out.bel) (ButS.of_grown hg5 (fun k e => Or.inl (Or.inr (Or.inl (by simpa using e.symm)))))); clear hm5 hg5)
            | (refine step_call rfl 60 #[.tmp 33] #[9] rfl Tryz.call60 #[.string ⟨t.toArray⟩] ?_ (strClone_any _ _ ?_) ?_; (simp [Act.eval,Act.put]); (exact HT2.out); rintro e w4 ⟨rfl,hb4⟩; refine ⟨_,rfl,?_⟩; have HW := hide (HW.out.go hb4); have d0 := HW.out.st.field.1; have hl1 := HW.out.st.field.2.2.2; clear hb4; obtain ⟨w5,hrun5,hm5,hg5⟩ := MapF.put (key := .string ⟨n.toArray⟩) (val := .agg #[.string ⟨t.toArray⟩]) HW.out.st.mods strK und_kept HLim.out HKy.out; have HM5 := hide (HSet.out _ w5 HW.out.st hm5 hg5); have HB5 := hide (ButS.trans (ButS.of_below (T := p.own) HW.out.bel) (ButS.of_grown hg5 (fun k e => Or.inl (Or.inr (Or.inl (by simpa using e.symm)))))); clear hm5 hg5))
          all_goals
            (try go_wp2_with fail)
            go_ret
            exact ⟨rfl,HB5.out,HM5.out⟩
end Go.Proofs.YtpmmjkiclngpmaaGreatDoor
