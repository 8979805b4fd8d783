/- B35: of the texts Sto4. -/
import Derived.Test.YtpmmjkiclngpmaaGreatDoorB17
import Derived.Test.YtpmmjkiclngpmaaGreatDoorB13
import Derived.Test.YtpmmjkiclngpmaaGreatDoorB31
set_option maxRecDepth 100000
set_option linter.unusedSimpArgs false
set_option linter.unusedVariables false
/- The contracts of Set, Remove. -/
namespace Go.Proofs.YtpmmjkiclngpmaaGreatDoor
open Go.RowKit

theorem strClone_any (s : ByteArray) (w : World) (hs : s.size ≤ 281474976710656) : Calls Tryz.prog 60 #[.string s] w fun e w' => e = .returned (.string s) ∧ Below w.heap.size w w' := by
  have hc : Calls Tryz.prog 98 #[.string s] w fun e w' => e = .returned (.string s) ∧ Below w.heap.size w w' := Any.stringslite_Clone Tryz.laysM316 s w hs
  go_enter Tryz.func60, Tryz.ntmps60
  go_wp2_with fail
  refine hc.mono ?_
  rintro e w' ⟨rfl, hb⟩
  have HB := hide hb
  clear hb
  go_wp2
  go_ret
  exact ⟨rfl, HB.out⟩
/-- What Set answers; what the modules are behind it. -/
def setS (s : Sto) (n : Nm) (t : List UInt8) : Nat × Sto :=
  if isNameT n = false then (1, s) else if 600 < t.length ∨ (n ∉ names s.L ∧ 8 ≤ s.L.length) then (2, s) else (0, { s with L := setM n t s.L })
/-- What Remove answers. -/
def remS (s : Sto) (n : Nm) : Nat × Sto := if n ∈ names s.L then (0, { s with L := delM n s.L }) else (3, s)
theorem isNameT_len {n : Nm} (h : isNameT n = true) : n.length ≤ 8 := by
  unfold isNameT at h
  simp only [Bool.and_eq_true, decide_eq_true_eq] at h
  exact h.2.1
theorem StAt.set {w w' : World} {p : SP} {s : Sto} (h : StAt w p s) {n : Nm} {t : List UInt8} (hn : n.length ≤ 8) (ht : t.length ≤ 600) (hfew : n ∈ names s.L ∨ s.L.length < 8)
    (hm : MapF Tryz.prog w' 9 p.mb (putB n (names s.L)) (updF (txtV s.L) n (.agg #[.string ⟨t.toArray⟩]))) (hg : w.grownBy w' (some p.mb)) : StAt w' p { s with L := setM n t s.L } := by
  have hr := h.rising
  have hsb := h.sbmap
  have hbl : ∀ k, k < w.heap.size → k ≠ p.mb → w'.heap[k]? = w.heap[k]? := fun k hk hne => hg.block k hk (fun e => hne (by simpa using e))
  have hkeep : ∀ k, ¬ p.out k → k < w.heap.size → ¬ p.out k ∧ w'.heap[k]? = w.heap[k]? := fun k h1 h2 => ⟨h1, hbl k h2 (fun e => h1 (Or.inl (Or.inr (Or.inl e))))⟩
  have hr' : Rising (names (setM n t s.L)) := by rw [names_setM hr]; exact hr.putB
  refine ⟨?_, ?_, ?_, ?_, h.n1, h.n2, h.n3, ⟨?_, h.few.2⟩, ?_⟩
  · obtain ⟨ip, a, b⟩ := h.blk
    exact ⟨ip, (hbl _ (lt_of_some a) hsb.1).trans a, b.keep hkeep⟩
  · show MapF _ _ _ _ (names (setM n t s.L)) (txtV (setM n t s.L))
    rw [names_setM hr]
    refine hm.congr fun x hx => ?_
    have := setM_now (n := n) (t := t) hr (x := x) (by rw [names_setM hr]; exact hx)
    unfold updF txtV
    rw [this]
    split <;> rfl
  · obtain ⟨ov, a, b⟩ := h.objs
    refine ⟨ov, ?_, fun m hm o ho => ?_⟩
    · show MapF _ _ _ _ (haves (setM n t s.L)) ov
      rw [haves_setM]
      exact a.keep (hbl _ a.lt h.n1.symm)
    · rcases setM_mem hm with ⟨e1, e2, e3 | ⟨m0, e3, e4, e5⟩⟩ | ⟨e1, e2⟩
      · rw [e3] at ho; cases ho
      · rw [e1, ← e4]
        exact (b m0 e3 o (by rw [← e5]; exact ho)).keep hkeep
      · exact (b m e2 o ho).keep hkeep
  · exact h.comp.keep (hbl _ h.comp.lt h.n2.symm)
  · show (setM n t s.L).length ≤ 8
    have e : (names (setM n t s.L)).length = (setM n t s.L).length := by simp
    rw [← e, names_setM hr]
    rcases hfew with hin | hlt
    · rw [putB_in hr hin]; simpa using h.few.1
    · have := putB_len (n := n) (ns := names s.L)
      simp only [List.length_map] at this
      omega
  · intro m hm
    rcases setM_mem hm with ⟨e1, e2, _⟩ | ⟨e1, e2⟩
    · exact ⟨by rw [e1]; exact hn, by rw [e2]; exact ht⟩
    · exact h.small m e2
/-- The store is as it was, in a world that has grown. -/
structure StBy (w0 : World) (p : SP) (s : Sto) (w : World) : Prop where
  bel : Below w0.heap.size w0 w
  st : StAt w p s
theorem StBy.go {w0 w w' : World} {p : SP} {s : Sto} (h : StBy w0 p s w) (hb : Below w.heap.size w w') : StBy w0 p s w' := ⟨h.bel.trans (hb.mono h.bel.size), h.st.below hb⟩
theorem ret_err {a b : Nat} (h : a = b) : Ending.returned (.int .i64 (a : Int)) = Ending.returned (.int .i64 (b : Int)) := by rw [h]
set_option maxHeartbeats 1600000 in
theorem set_any {w : World} {p : SP} {s : Sto} (h : StAt w p s) (n : Nm) (hn : n.length ≤ 140737488355328) (t : List UInt8) (ht : t.length ≤ 140737488355328) :
    Calls Tryz.prog 35 #[.pointer (some ⟨p.sb, 0, none⟩), .string ⟨n.toArray⟩, .string ⟨t.toArray⟩] w fun e w' =>
      e = .returned (.int .i64 ((setS s n t).1 : Int)) ∧ ButS p.own w w' ∧ StAt w' p (setS s n t).2 := by
  have hml : n.length ≤ maxLen := by unfold maxLen; omega
  obtain ⟨c0, c1, c2, hl⟩ := h.field
  have HS := hide h
  have HNm := hide (show Calls Tryz.prog 59 #[.string ⟨n.toArray⟩] w fun e w' => e = .returned (.bool (isNameT n)) ∧ w' = w from isName_any ⟨n.toArray⟩ w)
  have HHas := hide (has_any h n hml)
  rcases hnm : isNameT n with _ | _
  · have HV := hide (show setS s n t = (1, s) by simp [setS, hnm])
    rw [HV.out]
    clear h
    go_enter Tryz.func35, Tryz.ntmps35
    go_wp2_with fail
    refine HNm.out.mono ?_
    rintro e w ⟨rfl, rfl⟩
    rw [hnm]
    go_wp2
    go_ret
    exact ⟨rfl, ButS.refl _ _, HS.out⟩
  · have hn8 := isNameT_len hnm
    by_cases h600 : 600 < t.length
    · have HV := hide (show setS s n t = (2, s) by simp [setS, hnm, h600])
      have h6 : (600 : Int) < (t.length : Int) := by omega
      rw [HV.out]
      clear h
      go_enter Tryz.func35, Tryz.ntmps35
      go_wp2_with fail
      refine HNm.out.mono ?_
      rintro e w ⟨rfl, rfl⟩
      rw [hnm]
      go_wp2
      go_ret
      exact ⟨rfl, ButS.refl _ _, HS.out⟩
    · have h6 : ¬ (600 : Int) < (t.length : Int) := by omega
      have hlen := h.mods.len und_kept
      have hlen' : (names s.L).length = s.L.length := by simp
      rw [hlen'] at hlen
      have hfew := h.few.1
      by_cases hbad : n ∉ names s.L ∧ 8 ≤ s.L.length
      · have HV := hide (show setS s n t = (2, s) by unfold setS; rw [if_neg (by simp [hnm]), if_pos (Or.inr hbad)])
        have h8 : (8 : Int) ≤ (s.L.length : Int) := by omega
        rw [HV.out]
        have hdec : decide (n ∈ names s.L) = false := by simpa using hbad.1
        clear h hbad
        go_enter Tryz.func35, Tryz.ntmps35
        go_wp2_with fail
        refine HNm.out.mono ?_
        rintro e w ⟨rfl, rfl⟩
        rw [hnm]
        go_wp2_with fail
        refine HHas.out.mono ?_
        rintro e w1 ⟨rfl, hb1⟩
        rw [hdec]
        have d0 := (below_cell hb1 hl 0).trans c0
        have hl1 : p.sb < w1.heap.size := by have := hb1.size; omega
        have HS1 := hide (HS.out.below hb1)
        have hlen1 := HS1.out.mods.len und_kept
        rw [hlen'] at hlen1
        have HB1 := hide hb1
        clear hb1 hlen
        go_wp2
        go_ret
        exact ⟨rfl, ButS.of_below HB1.out, HS1.out⟩
      · have HV := hide (show setS s n t = (0, { s with L := setM n t s.L }) by unfold setS; rw [if_neg (by simp [hnm]), if_neg (by rintro (h | h); exact h600 h; exact hbad h)])
        rw [HV.out]
        have hfew' : n ∈ names s.L ∨ s.L.length < 8 := by
          by_cases hin : n ∈ names s.L
          · exact Or.inl hin
          · exact Or.inr (Nat.lt_of_not_le fun h => hbad ⟨hin, h⟩)
        have HSet := hide (fun (wa wb : World) (hst : StAt wa p s) => hst.set (w' := wb) hn8 (by omega : t.length ≤ 600) hfew')
        have HLim := hide (show (names s.L).length < maxLen by rw [hlen']; unfold maxLen; omega)
        have HKy := hide (key_str hml)
        have HT2 := hide (show (⟨t.toArray⟩ : ByteArray).size ≤ 281474976710656 by show t.toArray.size ≤ _; simp; omega)
        have HN2 := hide (show (⟨n.toArray⟩ : ByteArray).size ≤ 281474976710656 by show n.toArray.size ≤ _; simp; omega)
        have hcases : (∃ d, decide (n ∈ names s.L) = d ∧ (d = true ∨ ¬ (8 : Int) ≤ (s.L.length : Int))) := ⟨_, rfl, hfew'.elim (fun h => Or.inl (by simpa using h)) (fun h => Or.inr (by omega))⟩
        obtain ⟨d, hd, hd2⟩ := hcases
        have HD := hide hd
        have HD2 := hide hd2
        clear h hbad hfew' hd hd2
        go_enter Tryz.func35, Tryz.ntmps35
        go_wp2_with fail
        refine HNm.out.mono ?_
        rintro e w ⟨rfl, rfl⟩
        rw [hnm]
        go_wp2_with fail
        refine HHas.out.mono ?_
        rintro e w1 ⟨rfl, hb1⟩
        rw [HD.out]
        have d0 := (below_cell hb1 hl 0).trans c0
        have hl1 : p.sb < w1.heap.size := by have := hb1.size; omega
        have HS1 := hide (HS.out.below hb1)
        have hlen1 := HS1.out.mods.len und_kept
        rw [hlen'] at hlen1
        have HW := hide (show StBy w p s w1.drew from ⟨hb1.drew, HS1.out.below ((Below.refl _ _).drew)⟩)
        clear hb1 hlen
        rcases hdd : d with _ | _
        · subst hdd
          have h8 : ¬ (8 : Int) ≤ (s.L.length : Int) := HD2.out.elim (fun h => by cases h) (fun h => by omega)
          go_wp2_with fail
          go_region_law (first
            | (refine step_call rfl 60 #[.tmp 31] #[9] rfl Tryz.call60 #[.string ⟨n.toArray⟩] ?_ (strClone_any _ _ ?_) ?_; (simp [Act.eval, Act.put]); (exact HN2.out); rintro e w3 ⟨rfl, hb3⟩; refine ⟨_, rfl, ?_⟩; have HW := hide (HW.out.go hb3); have d0 := HW.out.st.field.1; have hl1 := HW.out.st.field.2.2.2; clear hb3; obtain ⟨w5, hrun5, hm5, hg5⟩ := MapF.put (key := .string ⟨n.toArray⟩) (val := .agg #[.string ⟨t.toArray⟩]) HW.out.st.mods strK und_kept HLim.out HKy.out; have HM5 := hide (HSet.out _ w5 HW.out.st hm5 hg5); have HB5 := hide (ButS.trans (ButS.of_below (T := p.own) HW.out.bel) (ButS.of_grown hg5 (fun k e => Or.inl (Or.inr (Or.inl (by simpa using e.symm)))))); clear hm5 hg5)
            | (refine step_call rfl 60 #[.tmp 33] #[9] rfl Tryz.call60 #[.string ⟨t.toArray⟩] ?_ (strClone_any _ _ ?_) ?_; (simp [Act.eval, Act.put]); (exact HT2.out); rintro e w4 ⟨rfl, hb4⟩; refine ⟨_, rfl, ?_⟩; have HW := hide (HW.out.go hb4); have d0 := HW.out.st.field.1; have hl1 := HW.out.st.field.2.2.2; clear hb4; obtain ⟨w5, hrun5, hm5, hg5⟩ := MapF.put (key := .string ⟨n.toArray⟩) (val := .agg #[.string ⟨t.toArray⟩]) HW.out.st.mods strK und_kept HLim.out HKy.out; have HM5 := hide (HSet.out _ w5 HW.out.st hm5 hg5); have HB5 := hide (ButS.trans (ButS.of_below (T := p.own) HW.out.bel) (ButS.of_grown hg5 (fun k e => Or.inl (Or.inr (Or.inl (by simpa using e.symm)))))); clear hm5 hg5))
          all_goals
            (try go_wp2_with fail)
            go_ret
            exact ⟨rfl, HB5.out, HM5.out⟩
        · subst hdd
          go_wp2_with fail
          go_region_law (first
            | (refine step_call rfl 60 #[.tmp 31] #[9] rfl Tryz.call60 #[.string ⟨n.toArray⟩] ?_ (strClone_any _ _ ?_) ?_; (simp [Act.eval, Act.put]); (exact HN2.out); rintro e w3 ⟨rfl, hb3⟩; refine ⟨_, rfl, ?_⟩; have HW := hide (HW.out.go hb3); have d0 := HW.out.st.field.1; have hl1 := HW.out.st.field.2.2.2; clear hb3; obtain ⟨w5, hrun5, hm5, hg5⟩ := MapF.put (key := .string ⟨n.toArray⟩) (val := .agg #[.string ⟨t.toArray⟩]) HW.out.st.mods strK und_kept HLim.out HKy.out; have HM5 := hide (HSet.out _ w5 HW.out.st hm5 hg5); have HB5 := hide (ButS.trans (ButS.of_below (T := p.own) HW.out.bel) (ButS.of_grown hg5 (fun k e => Or.inl (Or.inr (Or.inl (by simpa using e.symm)))))); clear hm5 hg5)
            | (refine step_call rfl 60 #[.tmp 33] #[9] rfl Tryz.call60 #[.string ⟨t.toArray⟩] ?_ (strClone_any _ _ ?_) ?_; (simp [Act.eval, Act.put]); (exact HT2.out); rintro e w4 ⟨rfl, hb4⟩; refine ⟨_, rfl, ?_⟩; have HW := hide (HW.out.go hb4); have d0 := HW.out.st.field.1; have hl1 := HW.out.st.field.2.2.2; clear hb4; obtain ⟨w5, hrun5, hm5, hg5⟩ := MapF.put (key := .string ⟨n.toArray⟩) (val := .agg #[.string ⟨t.toArray⟩]) HW.out.st.mods strK und_kept HLim.out HKy.out; have HM5 := hide (HSet.out _ w5 HW.out.st hm5 hg5); have HB5 := hide (ButS.trans (ButS.of_below (T := p.own) HW.out.bel) (ButS.of_grown hg5 (fun k e => Or.inl (Or.inr (Or.inl (by simpa using e.symm)))))); clear hm5 hg5))
          all_goals
            (try go_wp2_with fail)
            go_ret
            exact ⟨rfl, HB5.out, HM5.out⟩
theorem StAt.rem {w w1 w2 : World} {p : SP} {s : Sto} (h : StAt w p s) {n : Nm} {ov : Nm → Value}
    (hov : ∀ m ∈ s.L, ∀ o, m.obj = some o → ObAt (fun k => ¬ p.out k) w (ov m.name) o)
    (hm : MapF Tryz.prog w1 9 p.mb ((names s.L).filter fun x => !(x == n)) (txtV s.L)) (hg : w.grownBy w1 (some p.mb))
    (ho : MapF Tryz.prog w2 9 p.ob ((haves s.L).filter fun x => !(x == n)) ov) (hg2 : w1.grownBy w2 (some p.ob)) : ButS p.own w w2 ∧ StAt w2 p { s with L := delM n s.L } := by
  have hr := h.rising
  have hsb := h.sbmap
  have hbl : ∀ k, k < w.heap.size → k ≠ p.mb → k ≠ p.ob → w2.heap[k]? = w.heap[k]? := fun k hk h1 h2 => (hg2.block k (by have := hg.size; omega) (fun e => h2 (by simpa using e))).trans (hg.block k hk (fun e => h1 (by simpa using e)))
  have hkeep : ∀ k, ¬ p.out k → k < w.heap.size → ¬ p.out k ∧ w2.heap[k]? = w.heap[k]? := fun k h1 h2 => ⟨h1, hbl k h2 (fun e => h1 (Or.inl (Or.inr (Or.inl e)))) (fun e => h1 (Or.inl (Or.inr (Or.inr (Or.inl e)))))⟩
  refine ⟨⟨hg2.os.trans hg.os, hg2.tape.trans hg.tape, hg2.output.trans hg.output, Nat.le_trans hg.size hg2.size, fun k h1 h2 => hbl k h1 (fun e => h2 (Or.inr (Or.inl e))) (fun e => h2 (Or.inr (Or.inr (Or.inl e))))⟩, ⟨?_, ?_, ⟨ov, ?_, fun m hm o ho => ?_⟩, ?_, h.n1, h.n2, h.n3, ⟨?_, h.few.2⟩, fun m hm => h.small m (delM_mem hm).1⟩⟩
  · obtain ⟨ip, a, b⟩ := h.blk
    exact ⟨ip, (hbl _ (lt_of_some a) hsb.1 hsb.2.1).trans a, b.keep hkeep⟩
  · show MapF _ _ _ _ (names (delM n s.L)) (txtV (delM n s.L))
    rw [names_delM]
    refine (hm.keep (hg2.block _ hm.lt (fun e => h.n1 (by simpa using e)))).congr fun x hx => ?_
    unfold txtV
    rw [delM_now hr (by rw [names_delM]; exact hx)]
  · show MapF _ _ _ _ (haves (delM n s.L)) ov
    rw [haves_delM]
    exact ho
  · exact (hov m (delM_mem hm).1 o ho).keep hkeep
  · exact h.comp.keep (hbl _ h.comp.lt h.n2.symm h.n3.symm)
  · show (delM n s.L).length ≤ 8
    exact Nat.le_trans (List.length_filter_le _ _) h.few.1
set_option maxHeartbeats 800000 in
theorem remove_any {w : World} {p : SP} {s : Sto} (h : StAt w p s) (n : Nm) (hn : n.length ≤ 140737488355328) :
    Calls Tryz.prog 28 #[.pointer (some ⟨p.sb, 0, none⟩), .string ⟨n.toArray⟩] w fun e w' =>
      e = .returned (.int .i64 ((remS s n).1 : Int)) ∧ ButS p.own w w' ∧ StAt w' p (remS s n).2 := by
  have hml : n.length ≤ maxLen := by unfold maxLen; omega
  have HHas := hide (has_any h n hml)
  have HS := hide h
  by_cases hin : n ∈ names s.L
  · have HV := hide (show remS s n = (0, { s with L := delM n s.L }) by simp only [remS, if_pos hin])
    have HD := hide (show decide (n ∈ names s.L) = true by simpa using hin)
    have HKy := hide (key_str hml)
    rw [HV.out]
    clear h hin
    go_enter Tryz.func28, Tryz.ntmps28
    go_wp2_with fail
    refine HHas.out.mono ?_
    rintro e w1 ⟨rfl, hb1⟩
    rw [HD.out]
    have hs1 := HS.out.below hb1
    have HS1 := hide hs1
    obtain ⟨c0, c1, _, hl⟩ := hs1.field
    have hsb := hs1.sbmap
    obtain ⟨ov, hov, hob⟩ := hs1.objs
    have HOv := hide hov
    have HOb := hide hob
    have HB1 := hide hb1
    clear hb1 hs1 hov hob
    go_wp2_with (at_delete; refine wpList_delete_f _ rfl _ _ 79 9 rfl 129 strK und_kept p.mb (names s.L) (txtV s.L) rfl HS1.out.mods (.string ⟨n.toArray⟩) n rfl HKy.out ?_)
    intro w2 hm2 hg2
    have d1 := (World.cell?_of_block (a := ⟨p.sb, 1, none⟩) (hg2.block p.sb hl (fun e => hsb.1 (by simpa using e)))).trans c1
    have hl2 : p.sb < w2.heap.size := by have := hg2.size; omega
    have HO2 := hide (HOv.out.keep (hg2.block _ HOv.out.lt (fun e => HS1.out.n1.symm (by simpa using e))))
    have HM2 := hide hm2
    have HG2 := hide hg2
    clear hm2 hg2
    go_wp2_with (at_delete; refine wpList_delete_f _ rfl _ _ 80 9 rfl 154 strK und_obj p.ob (haves s.L) ov rfl HO2.out (.string ⟨n.toArray⟩) n rfl HKy.out ?_)
    intro w3 hm3 hg3
    have HR := hide (HS1.out.rem HOb.out HM2.out HG2.out hm3 hg3)
    clear hm3 hg3
    go_wp2
    go_ret
    exact ⟨rfl, (ButS.of_below HB1.out).trans HR.out.1, HR.out.2⟩
  · have HV := hide (show remS s n = (3, s) by simp only [remS, if_neg hin])
    have HD := hide (show decide (n ∈ names s.L) = false by simpa using hin)
    rw [HV.out]
    clear h hin
    go_enter Tryz.func28, Tryz.ntmps28
    go_wp2_with fail
    refine HHas.out.mono ?_
    rintro e w1 ⟨rfl, hb1⟩
    rw [HD.out]
    have HB1 := hide hb1
    clear hb1
    go_wp2
    go_ret
    exact ⟨rfl, ButS.of_below HB1.out, HS.out.below HB1.out⟩
end Go.Proofs.YtpmmjkiclngpmaaGreatDoor
