/- YtpmmjkiclngpmaaGreatDoorB02 -/
import Derived.Test.YtpmmjkiclngpmaaGreatDoorB01
import Derived.BigQuiet
set_option maxRecDepth 100000
set_option linter.unusedSimpArgs false
set_option linter.unusedVariables false
set_option maxHeartbeats 12800000
namespace Go.Proofs.YtpmmjkiclngpmaaGreatDoor
open Go.RowKit
def wdVal (x : Wd) : Value := .agg #[.int .i64 x.kind,.string ⟨x.text.toArray⟩,.int .i64 x.place]
theorem current_any (P : Pl) (ws : List Wd) (st : PS) (w : World) (hp : Prs P ws st w) :
    Calls Tryz.prog 159 #[.pointer (some ⟨P.pb,0,none⟩)] w fun e w' =>
      e = .returned (wdVal (st.cur ws)) ∧ Below w.heap.size w w' := by
  obtain ⟨f0,f1,f2,f3⟩ := hp.field
  obtain ⟨c0,c1,c2⟩ := hp.curWord
  have hlt := hp.lt
  have hsm := hp.small
  have h1 := lt_of_some hp.blk
  have h2 := lt_of_some hp.row
  generalize st.cur ws = x at *
  clear hp
  go_enter Tryz.func159,Tryz.ntmps159
  go_wp2
  go_region
  all_goals (try go_wp2)
  exact bodyPost_ret (v := .agg #[.int .i64 x.kind,.string ⟨x.text.toArray⟩,.int .i64 x.place]) (by simp [results,Tryz.results159,go_sem]) rfl ⟨rfl,((Below.refl _ _).alloc (Nat.le_refl _) _).drew⟩
theorem adv_end {P : Pl} {ws : List Wd} {st : PS} {w w1 : World} {z : Obj} (hb : Below (w.alloc z).heap.size (w.alloc z) w1) (hp : Prs P ws st w) (v : Int) (hv : v = ((st.next ws).i : Int)) (c0 c1 c2 : Value) (o : Obj) :
    But P.pb w (((((w1.setCell ⟨P.pb,1,none⟩ (.int .i64 v)).setCell ⟨w.heap.size,0,none⟩ c0).setCell ⟨w.heap.size,1,none⟩ c1).setCell ⟨w.heap.size,2,none⟩ c2).alloc o).drew ∧
    Prs P ws (st.next ws) (((((w1.setCell ⟨P.pb,1,none⟩ (.int .i64 v)).setCell ⟨w.heap.size,0,none⟩ c0).setCell ⟨w.heap.size,1,none⟩ c1).setCell ⟨w.heap.size,2,none⟩ c2).alloc o).drew := by
  have h1 := lt_of_some hp.blk
  have hb1 : But P.pb w w1 := (But.of_below ((Below.refl _ _).alloc (Nat.le_refl _) z)).trans (But.of_below hb)
  have hp1 := (hp.below ((Below.refl _ _).alloc (Nat.le_refl _) z)).below hb
  have hbut := (((((hb1.setCell (p := ⟨P.pb,1,none⟩) (Or.inl rfl) (.int .i64 v)).setCell (p := ⟨w.heap.size,0,none⟩) (Or.inr (Nat.le_refl _)) c0).setCell (p := ⟨w.heap.size,1,none⟩) (Or.inr (Nat.le_refl _)) c1).setCell (p := ⟨w.heap.size,2,none⟩) (Or.inr (Nat.le_refl _)) c2).alloc o).drew
  refine ⟨hbut,hp.but hbut ?_ (PS.next_lt hp.lt)⟩
  refine block_drew (block_alloc ?_ o)
  rw [Below.heap_setCell _ _ _ _ (by show P.pb ≠ w.heap.size; omega),Below.heap_setCell _ _ _ _ (by show P.pb ≠ w.heap.size; omega),Below.heap_setCell _ _ _ _ (by show P.pb ≠ w.heap.size; omega),block_setCell hp1.blk,hv]
  rfl
theorem advance_any (P : Pl) (ws : List Wd) (st : PS) (w : World) (hp : Prs P ws st w) :
    Calls Tryz.prog 249 #[.pointer (some ⟨P.pb,0,none⟩)] w fun e w' =>
      e = .returned (wdVal (st.cur ws)) ∧ But P.pb w w' ∧ Prs P ws (st.next ws) w' := by
  have h1 := lt_of_some hp.blk
  have hlt := hp.lt
  have hsm := hp.small
  go_enter Tryz.func249,Tryz.ntmps249
  go_wp2_with fail
  refine (current_any P ws st _ (by exact hp.below ((Below.refl _ _).alloc (Nat.le_refl _) _))).mono ?_
  rintro e w1 ⟨rfl,hb⟩
  have hp1 := (hp.below ((Below.refl _ _).alloc (Nat.le_refl _) (.cells #[.int .i64 0,.string ⟨#[]⟩,.int .i64 0] 274))).below hb
  have hz : w1.heap[w.heap.size]? = some (.cells #[.int .i64 0,.string ⟨#[]⟩,.int .i64 0] 274 (0,0)) :=
    (hb.block _ (by simp)).trans (block_new _ _)
  have hs1 : w.heap.size < w1.heap.size := lt_of_some hz
  obtain ⟨f0,f1,f2,f3⟩ := hp1.field
  have g1 := free_block hp1.blk
  have z0 := cell_block hz 0
  have z1 := cell_block hz 1
  have z2 := cell_block hz 2
  have zf := free_block hz
  simp at z0 z1 z2
  have h1' : P.pb < w1.heap.size := by omega
  have hne : ¬ P.pb = w.heap.size := by omega
  have hne' : ¬ P.pb = w1.heap.size := by omega
  unfold wdVal
  generalize hx : st.cur ws = x at *
  have HX := hide hx
  clear hx
  have HB := hide hb
  have HP := hide hp1
  have HZ := hide hz
  have HQ := hide hp
  clear hb hp1 hz hp
  by_cases hl : st.i + 1 < ws.length
  all_goals
    go_wp2
    go_region
    all_goals (try go_wp2)
    exact bodyPost_ret (v := .agg #[.int .i64 x.kind,.string ⟨x.text.toArray⟩,.int .i64 x.place]) (by simp [results,Tryz.results249,go_sem,hne,hne',zf,hs1,z0,z1,z2]) rfl ⟨by rw [HX.out]; rfl,adv_end HB.out HQ.out _ (by simp [PS.next]; omega) _ _ _ _⟩
end Go.Proofs.YtpmmjkiclngpmaaGreatDoor
namespace Go.Proofs.YtpmmjkiclngpmaaGreatDoor
open Go.RowKit
theorem fail_end {P : Pl} {ws : List Wd} {st : PS} {w w1 : World} (hb : Below w.heap.size w w1) (hp : Prs P ws st w) (hf : st.failed = false) (v u : Int) (hv : v = ((st.cur ws).place : Int)) (hu : u = ((ws.length - 1 : Nat) : Int)) :
    But P.pb w (((w1.setCell ⟨P.pb,2,none⟩ (.bool true)).setCell ⟨P.pb,3,none⟩ (.int .i64 v)).setCell ⟨P.pb,1,none⟩ (.int .i64 u)) ∧
    Prs P ws (st.fail ws) (((w1.setCell ⟨P.pb,2,none⟩ (.bool true)).setCell ⟨P.pb,3,none⟩ (.int .i64 v)).setCell ⟨P.pb,1,none⟩ (.int .i64 u)) := by
  have hbut := (((But.of_below (pb := P.pb) hb).setCell (p := ⟨P.pb,2,none⟩) (Or.inl rfl) (.bool true)).setCell (p := ⟨P.pb,3,none⟩) (Or.inl rfl) (.int .i64 v)).setCell (p := ⟨P.pb,1,none⟩) (Or.inl rfl) (.int .i64 u)
  refine ⟨hbut,hp.but hbut ?_ (PS.fail_lt hp.lt)⟩
  rw [block_setCell (block_setCell (block_setCell (hp.below hb).blk 2 _) 3 _) 1 _,hv,hu]
  simp [PS.fail,hf]
theorem fail_again {P : Pl} {ws : List Wd} {st : PS} {w : World} (hp : Prs P ws st w) (hf : st.failed = true) (u : Int) (hu : u = ((ws.length - 1 : Nat) : Int)) :
    But P.pb w (w.setCell ⟨P.pb,1,none⟩ (.int .i64 u)) ∧ Prs P ws (st.fail ws) (w.setCell ⟨P.pb,1,none⟩ (.int .i64 u)) := by
  have hbut := (But.refl P.pb w).setCell (p := ⟨P.pb,1,none⟩) (Or.inl rfl) (.int .i64 u)
  refine ⟨hbut,hp.but hbut ?_ (PS.fail_lt hp.lt)⟩
  rw [block_setCell hp.blk 1 _,hu]
  simp [PS.fail,hf]
theorem fail_any (P : Pl) (ws : List Wd) (st : PS) (w : World) (hp : Prs P ws st w) :
    Calls Tryz.prog 160 #[.pointer (some ⟨P.pb,0,none⟩)] w fun e w' =>
      e = .returned (.tuple #[]) ∧ But P.pb w w' ∧ Prs P ws (st.fail ws) w' := by
  have h1 := lt_of_some hp.blk
  have hlt := hp.lt
  have hsm := hp.small
  obtain ⟨f0,f1,f2,f3⟩ := hp.field
  have g0 := free_block hp.blk
  have HQ := hide hp
  clear hp
  rcases hf : st.failed with _ | _
  · rw [hf] at f2
    have HF := hide hf
    clear hf
    go_enter Tryz.func160,Tryz.ntmps160
    go_wp2_with fail
    refine (current_any P ws st _ HQ.out).mono ?_
    rintro e w1 ⟨rfl,hb⟩
    have hp1 := HQ.out.below hb
    obtain ⟨k0,k1,k2,k3⟩ := hp1.field
    have g1 := free_block hp1.blk
    have h1' := lt_of_some hp1.blk
    unfold wdVal
    generalize hx : st.cur ws = x at *
    have HX := hide hx
    have HB := hide hb
    clear hx hb hp1 f0 f1 f2 f3
    rw [HF.out] at k2
    have fw2 := fieldw2
    go_wp2
    go_end0
    exact ⟨rfl,fail_end HB.out HQ.out HF.out _ _ (by rw [HX.out]) (by omega)⟩
  · rw [hf] at f2
    have HF := hide hf
    clear hf
    go_enter Tryz.func160,Tryz.ntmps160
    go_wp2
    go_end0
    exact ⟨rfl,fail_again HQ.out HF.out _ (by omega)⟩
def hasB (ss : List (List UInt8)) (t : List UInt8) : Bool := ss.contains t
def StrRow (b : Nat) (ss : List (List UInt8)) (w : World) : Prop := ∀ j,(h : j < ss.length) → w.cell? ⟨b,j,none⟩ = some (.string ⟨ss[j].toArray⟩)
theorem find_at (ss : List (List UInt8)) (t : List UInt8) (k : Nat) (hk : k < ss.length) (h : ss[k] = t) : ss.contains t = true := by
  rw [List.contains_iff_mem]; subst h; exact List.getElem_mem hk
theorem find_none (ss : List (List UInt8)) (t : List UInt8) (h : ∀ j,(hj : j < ss.length) → ss[j] ≠ t) : ss.contains t = false := by
  rcases hc : ss.contains t with _ | _
  · rfl
  · rw [List.contains_iff_mem] at hc
    obtain ⟨j,hj,e⟩ := List.mem_iff_getElem.1 hc
    exact absurd e (h j hj)
theorem index_any (b cap : Nat) (ss : List (List UInt8)) (t : List UInt8) (w : World) (hr : StrRow b ss w) (hl : ss.length ≤ 1000) :
    Calls Tryz.prog 276 #[.slice (some ⟨b,0,none⟩) ss.length cap,.string ⟨t.toArray⟩] w fun e w' => ∃ n : Int,e = .returned (.int .i64 n) ∧ Hid (decide (0 ≤ n) = hasB ss t) ∧ w' = w := by
  go_enter Tryz.func276,Tryz.ntmps276
  go_wp2
  go_loop [8] (fun i => ∃ k : Nat,k ≤ ss.length ∧ i = .int .i64 k ∧ Hid (∀ j,(hj : j < ss.length) → j < k → ss[j] ≠ t)) (fun i => ss.length - (intOf i).toNat)
  case atStart => exact ⟨0,Nat.zero_le _,rfl,fun j _ h => by omega⟩
  case round =>
    obtain ⟨k,hk,rfl,HA⟩ := hrel
    have HR := hide hr
    clear hr
    by_cases hlt : k < ss.length
    · have hc := HR.out k hlt
      rcases he : (t == ss[k]) with _ | _
      · go_wp2
        go_round
        case rel => exact ⟨k + 1,by omega,by go_num,fun j hj h e => by
          by_cases ej : j = k
          · subst ej; simp [e] at he
          · exact HA.out j hj (by omega) e⟩
        case measure => simp [intOf]; omega
      · go_wp2
        go_ret
        exact ⟨k,rfl,by show decide (0 ≤ (k : Int)) = hasB ss t; unfold hasB; rw [find_at ss t k hlt (by simpa using (beq_iff_eq.1 he).symm)]; simp,rfl⟩
    · go_wp2
      go_ret
      exact ⟨-1,rfl,by show decide (0 ≤ (-1 : Int)) = hasB ss t; unfold hasB; rw [find_none ss t (fun j hj => HA.out j hj (by omega))]; rfl,rfl⟩
theorem contains_any (b cap : Nat) (ss : List (List UInt8)) (t : List UInt8) (w : World) (hr : StrRow b ss w) (hl : ss.length ≤ 1000) :
    Calls Tryz.prog 248 #[.slice (some ⟨b,0,none⟩) ss.length cap,.string ⟨t.toArray⟩] w fun e w' => e = .returned (.bool (hasB ss t)) ∧ w' = w := by
  have HR := hide hr
  clear hr
  go_enter Tryz.func248,Tryz.ntmps248
  go_wp2_with fail
  refine (index_any b cap ss t w HR.out hl).mono ?_
  rintro e w1 ⟨n,rfl,hn,rfl⟩
  go_wp2
  go_ret
  exact ⟨ret_bool hn.out,rfl⟩
theorem at_any (P : Pl) (ws : List Wd) (st : PS) (w : World) (hp : Prs P ws st w) (b cap : Nat) (ss : List (List UInt8)) (hr : StrRow b ss w) (hbb : b < w.heap.size) (hl : ss.length ≤ 1000) :
    Calls Tryz.prog 201 #[.pointer (some ⟨P.pb,0,none⟩),.slice (some ⟨b,0,none⟩) ss.length cap] w fun e w' =>
      e = .returned (.bool (st.isAt ws ss)) ∧ Below w.heap.size w w' := by
  have HQ := hide hp
  have HR := hide hr
  clear hp hr
  rcases hk : (((st.cur ws).kind : Int) == 4) with _ | _
  · have HV := hide (show st.isAt ws ss = false by
      have : ((st.cur ws).kind == 4) = false := by simp at hk ⊢; omega
      simp [PS.isAt,this])
    go_enter Tryz.func201,Tryz.ntmps201
    go_wp2_with fail
    refine (current_any P ws st _ HQ.out).mono ?_
    rintro e w1 ⟨rfl,hb⟩
    unfold wdVal
    have HB := hide hb
    clear hb
    go_wp2
    go_ret
    exact ⟨ret_bool HV.out.symm,HB.out.alloc HB.out.size _⟩
  · have HV := hide (show st.isAt ws ss = hasB ss (st.cur ws).text by
      have : ((st.cur ws).kind == 4) = true := by simp at hk ⊢; omega
      simp [PS.isAt,this,hasB])
    go_enter Tryz.func201,Tryz.ntmps201
    go_wp2_with fail
    refine (current_any P ws st _ HQ.out).mono ?_
    rintro e w1 ⟨rfl,hb⟩
    unfold wdVal
    have HB := hide hb
    clear hb
    go_wp2_with fail
    refine (contains_any b cap ss (st.cur ws).text _ (by intro j hj; rw [World.cell?_alloc_past _ _ _ (by have := HB.out.size; simp; omega)]; exact (HB.out.cell (p := ⟨b,j,none⟩) hbb).trans (HR.out j hj)) hl).mono ?_
    rintro e w2 ⟨rfl,rfl⟩
    go_wp2
    go_ret
    exact ⟨ret_bool HV.out.symm,HB.out.alloc HB.out.size _⟩
end Go.Proofs.YtpmmjkiclngpmaaGreatDoor
namespace Go.Proofs.YtpmmjkiclngpmaaGreatDoor
open Go.RowKit
theorem at_one (P : Pl) (ws : List Wd) (st : PS) (w : World) (hp : Prs P ws st w) (b : Nat) (t : List UInt8) (hr : w.cell? ⟨b,0,none⟩ = some (.string ⟨t.toArray⟩)) (hbb : b < w.heap.size) :
    Calls Tryz.prog 201 #[.pointer (some ⟨P.pb,0,none⟩),.slice (some ⟨b,0,none⟩) 1 1] w fun e w' =>
      e = .returned (.bool (st.isAt ws [t])) ∧ Below w.heap.size w w' :=
  at_any P ws st w hp b 1 [t] (fun j hj => by simp at hj; subst hj; exact hr) hbb (by simp)
theorem at_two (P : Pl) (ws : List Wd) (st : PS) (w : World) (hp : Prs P ws st w) (b : Nat) (t u : List UInt8) (hr : w.cell? ⟨b,0,none⟩ = some (.string ⟨t.toArray⟩)) (hr' : w.cell? ⟨b,1,none⟩ = some (.string ⟨u.toArray⟩)) (hbb : b < w.heap.size) :
    Calls Tryz.prog 201 #[.pointer (some ⟨P.pb,0,none⟩),.slice (some ⟨b,0,none⟩) 2 2] w fun e w' =>
      e = .returned (.bool (st.isAt ws [t,u])) ∧ Below w.heap.size w w' :=
  at_any P ws st w hp b 2 [t,u] (fun j hj => by
    match j,hj with
    | 0,_ => exact hr
    | 1,_ => exact hr') hbb (by simp)
def PS.skipTo (ws : List Wd) (st : PS) (t : List UInt8) : PS := if st.isAt ws [t] then st.next ws else st
def PS.expect (ws : List Wd) (st : PS) (t : List UInt8) : PS := if st.isAt ws [t] then st.next ws else st.fail ws
theorem skip_any (P : Pl) (ws : List Wd) (st : PS) (w : World) (hp : Prs P ws st w) (t : List UInt8) :
    Calls Tryz.prog 204 #[.pointer (some ⟨P.pb,0,none⟩),.string ⟨t.toArray⟩] w fun e w' =>
      e = .returned (.bool (st.isAt ws [t])) ∧ But P.pb w w' ∧ Prs P ws (st.skipTo ws t) w' := by
  have HQ := hide hp
  clear hp
  have HA := hide (HQ.out.below ((Below.refl _ _).alloc (Nat.le_refl _) (.cells #[.string ⟨t.toArray⟩] 9)))
  rcases hk : st.isAt ws [t] with _ | _
  · have HS := hide (show st.skipTo ws t = st by simp [PS.skipTo,hk])
    go_enter Tryz.func204,Tryz.ntmps204
    go_wp2_with fail
    refine (at_one P ws st _ HA.out w.heap.size t (by simp) (by simp)).mono ?_
    rintro e w1 ⟨rfl,hb⟩
    have HB := hide hb
    clear hb
    rw [hk]
    go_wp2
    go_ret
    exact ⟨rfl,(But.of_below ((Below.refl _ _).alloc (Nat.le_refl _) _)).trans (But.of_below HB.out),by rw [HS.out]; exact HA.out.below HB.out⟩
  · have HS := hide (show st.skipTo ws t = st.next ws by simp [PS.skipTo,hk])
    go_enter Tryz.func204,Tryz.ntmps204
    go_wp2_with fail
    refine (at_one P ws st _ HA.out w.heap.size t (by simp) (by simp)).mono ?_
    rintro e w1 ⟨rfl,hb⟩
    have HB := hide hb
    clear hb
    rw [hk]
    go_wp2_with fail
    refine (advance_any P ws st _ (HA.out.below HB.out)).mono ?_
    rintro e w2 ⟨rfl,hb2,hp2⟩
    have HB2 := hide hb2
    have HP2 := hide hp2
    clear hb2 hp2
    go_wp2
    go_ret
    exact ⟨rfl,((But.of_below ((Below.refl _ _).alloc (Nat.le_refl _) _)).trans (But.of_below HB.out)).trans HB2.out,by rw [HS.out]; exact HP2.out⟩
theorem expect_any (P : Pl) (ws : List Wd) (st : PS) (w : World) (hp : Prs P ws st w) (t : List UInt8) :
    Calls Tryz.prog 202 #[.pointer (some ⟨P.pb,0,none⟩),.string ⟨t.toArray⟩] w fun e w' =>
      e = .returned (.tuple #[]) ∧ But P.pb w w' ∧ Prs P ws (st.expect ws t) w' := by
  have HQ := hide hp
  clear hp
  rcases hk : st.isAt ws [t] with _ | _
  · have HS := hide (show st.skipTo ws t = st by simp [PS.skipTo,hk])
    have HE := hide (show st.expect ws t = st.fail ws by simp [PS.expect,hk])
    go_enter Tryz.func202,Tryz.ntmps202
    go_wp2_with fail
    refine (skip_any P ws st _ HQ.out t).mono ?_
    rintro e w1 ⟨rfl,hb,hp1⟩
    rw [HS.out] at hp1
    have HB := hide hb
    have HP := hide hp1
    clear hb hp1
    rw [hk]
    go_wp2_with fail
    refine (fail_any P ws st _ HP.out).mono ?_
    rintro e w2 ⟨rfl,hb2,hp2⟩
    have HB2 := hide hb2
    have HP2 := hide hp2
    clear hb2 hp2
    go_wp2
    go_end0
    exact ⟨rfl,HB.out.trans HB2.out,by rw [HE.out]; exact HP2.out⟩
  · have HS := hide (show st.skipTo ws t = st.next ws by simp [PS.skipTo,hk])
    have HE := hide (show st.expect ws t = st.next ws by simp [PS.expect,hk])
    go_enter Tryz.func202,Tryz.ntmps202
    go_wp2_with fail
    refine (skip_any P ws st _ HQ.out t).mono ?_
    rintro e w1 ⟨rfl,hb,hp1⟩
    rw [HS.out] at hp1
    have HB := hide hb
    have HP := hide hp1
    clear hb hp1
    rw [hk]
    go_wp2
    go_end0
    exact ⟨rfl,HB.out,by rw [HE.out]; exact HP.out⟩
def PS.nameWd (ws : List Wd) (st : PS) : Wd := if (st.cur ws).kind = 2 then st.cur ws else ⟨0,[],0⟩
def PS.nameTo (ws : List Wd) (st : PS) : PS := if (st.cur ws).kind = 2 then st.next ws else st.fail ws
theorem res_block {w w' : World} {pb : Nat} {o : Obj} (hb : But pb (w.alloc o) w') (h : pb < w.heap.size) : w'.heap[w.heap.size]? = some o := (hb.block _ (by simp) (by omega)).trans (block_new _ _)
theorem name_any (P : Pl) (ws : List Wd) (st : PS) (w : World) (hp : Prs P ws st w) :
    Calls Tryz.prog 203 #[.pointer (some ⟨P.pb,0,none⟩)] w fun e w' =>
      e = .returned (wdVal (st.nameWd ws)) ∧ Ok P ws w (st.nameTo ws) w' := by
  have h1 := lt_of_some hp.blk
  have HQ := hide (Ok.refl hp)
  clear hp
  have fw0 := fieldw0
  rcases hk : (((st.cur ws).kind : Int) != 2) with _ | _
  · have hk' : (st.cur ws).kind = 2 := by simp at hk; omega
    have HS := hide (show st.nameTo ws = st.next ws by simp [PS.nameTo,hk'])
    have HN := hide (show st.nameWd ws = st.cur ws by simp [PS.nameWd,hk'])
    clear hk'
    go_enter Tryz.func203,Tryz.ntmps203
    go_wp2_with fail
    refine (current_any P ws st _ (by refine Ok.prs (w0 := w) ?_; repeat (first | exact HQ.out | refine Ok.alloc ?_ _ | refine Ok.drew ?_ | refine Ok.set ?_ _ _ _ (by omega)))).mono ?_
    rintro e w1 ⟨rfl,hb⟩
    have HO1 := hide ((HQ.out.alloc _).below hb)
    have hs1 := HO1.out.size
    have HB := hide hb
    clear hb
    unfold wdVal
    go_wp2_with fail
    refine (advance_any P ws st _ (by refine Ok.prs (w0 := w) ?_; repeat (first | exact HO1.out | refine Ok.alloc ?_ _ | refine Ok.drew ?_ | refine Ok.set ?_ _ _ _ (by omega)))).mono ?_
    rintro e w2 ⟨rfl,hb2⟩
    have HO2 := hide (HO1.out.go hb2)
    have HZ := hide (res_block ((But.of_below HB.out).trans hb2.1) h1)
    have hs2 := lt_of_some HZ.out
    clear hb2
    have z0 := cell_block HZ.out 0
    have z1 := cell_block HZ.out 1
    have z2 := cell_block HZ.out 2
    have zf := free_block HZ.out
    simp at z0 z1 z2
    unfold wdVal
    go_wp2
    exact bodyPost_ret (v := wdVal (st.cur ws)) (by simp [results,Tryz.results203,go_sem,z0,z1,z2,wdVal]) rfl ⟨by rw [HN.out],by rw [HS.out]; repeat (first | exact HO2.out | refine Ok.alloc ?_ _ | refine Ok.drew ?_ | refine Ok.set ?_ _ _ _ (by omega))⟩
  · have hk' : ¬ (st.cur ws).kind = 2 := by simp at hk; omega
    have HS := hide (show st.nameTo ws = st.fail ws by simp [PS.nameTo,hk'])
    have HN := hide (show st.nameWd ws = ⟨0,[],0⟩ by simp [PS.nameWd,hk'])
    clear hk'
    go_enter Tryz.func203,Tryz.ntmps203
    go_wp2_with fail
    refine (current_any P ws st _ (by refine Ok.prs (w0 := w) ?_; repeat (first | exact HQ.out | refine Ok.alloc ?_ _ | refine Ok.drew ?_ | refine Ok.set ?_ _ _ _ (by omega)))).mono ?_
    rintro e w1 ⟨rfl,hb⟩
    have HO1 := hide ((HQ.out.alloc _).below hb)
    have hs1 := HO1.out.size
    have HB := hide hb
    clear hb
    unfold wdVal
    go_wp2_with fail
    refine (fail_any P ws st _ (by refine Ok.prs (w0 := w) ?_; repeat (first | exact HO1.out | refine Ok.alloc ?_ _ | refine Ok.drew ?_ | refine Ok.set ?_ _ _ _ (by omega)))).mono ?_
    rintro e w2 ⟨rfl,hb2⟩
    have HO2 := hide (HO1.out.go hb2)
    have HZ := hide (res_block ((But.of_below HB.out).trans hb2.1) h1)
    have hs2 := lt_of_some HZ.out
    clear hb2
    have z0 := cell_block HZ.out 0
    have z1 := cell_block HZ.out 1
    have z2 := cell_block HZ.out 2
    have zf := free_block HZ.out
    simp at z0 z1 z2
    go_wp2
    exact bodyPost_ret (v := wdVal ⟨0,[],0⟩) (by simp [results,Tryz.results203,go_sem,z0,z1,z2,wdVal]) rfl ⟨by rw [HN.out],by rw [HS.out]; repeat (first | exact HO2.out | refine Ok.alloc ?_ _ | refine Ok.drew ?_ | refine Ok.set ?_ _ _ _ (by omega))⟩
def PS.typ (ws : List Wd) (st : PS) : Nat := if st.isAt ws [[105,110,116]] then 1 else 2
def PS.typTo (ws : List Wd) (st : PS) : PS := if st.isAt ws [[105,110,116]] then st.next ws else st.expect ws [98,111,111,108]
theorem typeName_any (P : Pl) (ws : List Wd) (st : PS) (w : World) (hp : Prs P ws st w) :
    Calls Tryz.prog 207 #[.pointer (some ⟨P.pb,0,none⟩)] w fun e w' =>
      e = .returned (.int .i64 (st.typ ws)) ∧ Ok P ws w (st.typTo ws) w' := by
  have HQ := hide (Ok.refl hp)
  clear hp
  rcases hk : st.isAt ws [[105,110,116]] with _ | _
  · have HS := hide (show st.skipTo ws [105,110,116] = st by simp [PS.skipTo,hk])
    have HT := hide (show st.typ ws = 2 ∧ st.typTo ws = st.expect ws [98,111,111,108] by simp [PS.typ,PS.typTo,hk])
    go_enter Tryz.func207,Tryz.ntmps207
    go_wp2_with fail
    refine (skip_any P ws st _ (by refine Ok.prs (w0 := w) ?_; repeat (first | exact HQ.out | refine Ok.alloc ?_ _ | refine Ok.drew ?_ | refine Ok.set ?_ _ _ _ (by omega))) [105,110,116]).mono ?_
    rintro e w1 ⟨rfl,hb⟩
    rw [HS.out] at hb
    have HO1 := hide (HQ.out.go hb)
    clear hb
    rw [hk]
    go_wp2_with fail
    refine (expect_any P ws st _ (by refine Ok.prs (w0 := w) ?_; repeat (first | exact HO1.out | refine Ok.alloc ?_ _ | refine Ok.drew ?_ | refine Ok.set ?_ _ _ _ (by omega))) [98,111,111,108]).mono ?_
    rintro e w2 ⟨rfl,hb2⟩
    have HO2 := hide (HO1.out.go hb2)
    clear hb2
    go_wp2
    go_ret
    exact ⟨ret_int (by rw [HT.out.1]; rfl),by rw [HT.out.2]; exact HO2.out⟩
  · have HS := hide (show st.skipTo ws [105,110,116] = st.next ws by simp [PS.skipTo,hk])
    have HT := hide (show st.typ ws = 1 ∧ st.typTo ws = st.next ws by simp [PS.typ,PS.typTo,hk])
    go_enter Tryz.func207,Tryz.ntmps207
    go_wp2_with fail
    refine (skip_any P ws st _ (by refine Ok.prs (w0 := w) ?_; repeat (first | exact HQ.out | refine Ok.alloc ?_ _ | refine Ok.drew ?_ | refine Ok.set ?_ _ _ _ (by omega))) [105,110,116]).mono ?_
    rintro e w1 ⟨rfl,hb⟩
    rw [HS.out] at hb
    have HO1 := hide (HQ.out.go hb)
    clear hb
    rw [hk]
    go_wp2
    go_ret
    exact ⟨ret_int (by rw [HT.out.1]; rfl),by rw [HT.out.2]; exact HO1.out⟩
end Go.Proofs.YtpmmjkiclngpmaaGreatDoor
namespace Go.Proofs.YtpmmjkiclngpmaaGreatDoor
open Go.RowKit
structure Ex where
  kind : Nat
  place : Nat
  name : List UInt8
  value : Int
  parts : List Ex
def exCells (e : Ex) (pv : Value) : List Value := [.int .i64 e.kind,.int .i64 e.place,.string ⟨e.name.toArray⟩,.int .i64 e.value,pv]
def exVal (e : Ex) (pv : Value) : Value := .agg #[.int .i64 e.kind,.int .i64 e.place,.string ⟨e.name.toArray⟩,.int .i64 e.value,pv]
def PartsN : Nat → (Nat → Prop) → World → Value → List Ex → Prop
  | 0,_,_,pv,es => es = [] ∧ pv = .slice none 0 0
  | n + 1,S,w,pv,es => (es = [] ∧ pv = .slice none 0 0) ∨ ∃ g cap cur,pv = .slice (some ⟨g,0,none⟩) es.length cap ∧ S g ∧ es.length ≤ cap ∧
      w.heap[g]? = some (.cells cur 231 (0,0)) ∧ ∀ j,(h : j < es.length) → ∃ pj,(cur.toList.drop (j * 5)).take 5 = exCells es[j] pj ∧ PartsN n S w pj es[j].parts
def Parts (S : Nat → Prop) (w : World) (pv : Value) (es : List Ex) : Prop := ∃ n,PartsN n S w pv es
theorem PartsN.mono {n m : Nat} {S : Nat → Prop} {w : World} {pv : Value} {es : List Ex} (h : PartsN n S w pv es) (hm : n ≤ m) : PartsN m S w pv es := by
  induction n generalizing m pv es with
  | zero =>
    cases m with
    | zero => exact h
    | succ m => exact Or.inl h
  | succ n ih =>
    cases m with
    | zero => omega
    | succ m =>
      rcases h with h | ⟨g,cap,cur,h1,h2,h3,h4,h5⟩
      · exact Or.inl h
      · exact Or.inr ⟨g,cap,cur,h1,h2,h3,h4,fun j hj => by
          obtain ⟨pj,a,b⟩ := h5 j hj
          exact ⟨pj,a,ih b (by omega)⟩⟩
theorem PartsN.keep {n : Nat} {S S' : Nat → Prop} {w w' : World} {pv : Value} {es : List Ex} (h : PartsN n S w pv es) (hk : ∀ k,S k → k < w.heap.size → S' k ∧ w'.heap[k]? = w.heap[k]?) : PartsN n S' w' pv es := by
  induction n generalizing pv es with
  | zero => exact h
  | succ n ih =>
    rcases h with h | ⟨g,cap,cur,h1,h2,h3,h4,h5⟩
    · exact Or.inl h
    · have hg := hk g h2 (lt_of_some h4)
      exact Or.inr ⟨g,cap,cur,h1,hg.1,h3,hg.2.trans h4,fun j hj => by
        obtain ⟨pj,a,b⟩ := h5 j hj
        exact ⟨pj,a,ih b⟩⟩
theorem Parts.nil (S : Nat → Prop) (w : World) : Parts S w (.slice none 0 0) [] := ⟨0,rfl,rfl⟩
theorem Parts.keep {S S' : Nat → Prop} {w w' : World} {pv : Value} {es : List Ex} (h : Parts S w pv es) (hk : ∀ k,S k → k < w.heap.size → S' k ∧ w'.heap[k]? = w.heap[k]?) : Parts S' w' pv es := by
  obtain ⟨n,h⟩ := h; exact ⟨n,h.keep hk⟩
theorem Parts.but {S S' : Nat → Prop} {pb : Nat} {w w' : World} {pv : Value} {es : List Ex} (h : Parts S w pv es) (hb : But pb w w') (hl : ∀ k,S k → k < w.heap.size → S' k ∧ k ≠ pb) : Parts S' w' pv es :=
  h.keep fun k h1 h2 => ⟨(hl k h1 h2).1,hb.block k h2 (hl k h1 h2).2⟩
theorem Parts.alloc {S : Nat → Prop} {w : World} {pv : Value} {es : List Ex} (h : Parts S w pv es) (o : Obj) : Parts S (w.alloc o) pv es :=
  h.keep fun k h1 h2 => ⟨h1,Below.heap_alloc _ _ _ h2⟩
theorem Parts.drew {S : Nat → Prop} {w : World} {pv : Value} {es : List Ex} (h : Parts S w pv es) : Parts S w.drew pv es := h.keep fun k h1 h2 => ⟨h1,rfl⟩
theorem Parts.set {S : Nat → Prop} {w : World} {pv : Value} {es : List Ex} (h : Parts S w pv es) (b o : Nat) (u : Value) (hb : ¬ S b) : Parts S (w.setCell ⟨b,o,none⟩ u) pv es :=
  h.keep fun k h1 h2 => ⟨h1,Below.heap_setCell _ _ _ _ (fun e => hb (by have e' : k = b := e; exact e' ▸ h1))⟩
theorem Parts.set5 {S : Nat → Prop} {w : World} {pv : Value} {es : List Ex} (h : Parts S w pv es) (b : Nat) (c0 c1 c2 c3 c4 : Value) (hb : ¬ S b) :
    Parts S (((((w.setCell ⟨b,0,none⟩ c0).setCell ⟨b,1,none⟩ c1).setCell ⟨b,2,none⟩ c2).setCell ⟨b,3,none⟩ c3).setCell ⟨b,4,none⟩ c4) pv es :=
  ((((h.set b 0 c0 hb).set b 1 c1 hb).set b 2 c2 hb).set b 3 c3 hb).set b 4 c4 hb
theorem size_set5 (w : World) (b : Nat) (c0 c1 c2 c3 c4 : Value) : (((((w.setCell ⟨b,0,none⟩ c0).setCell ⟨b,1,none⟩ c1).setCell ⟨b,2,none⟩ c2).setCell ⟨b,3,none⟩ c3).setCell ⟨b,4,none⟩ c4).heap.size = w.heap.size := by
  simp [World.setCell]
theorem Parts.mono {S S' : Nat → Prop} {w : World} {pv : Value} {es : List Ex} (h : Parts S w pv es) (hs : ∀ k,S k → k < w.heap.size → S' k) : Parts S' w pv es := h.keep fun k h1 h2 => ⟨hs k h1 h2,rfl⟩
theorem Parts.bound {S : Nat → Prop} {w : World} {pv : Value} {es : List Ex} (h : Parts S w pv es) : Parts (fun k => S k ∧ k < w.heap.size) w pv es := h.mono fun k a b => ⟨a,b⟩
theorem Parts.shape {S : Nat → Prop} {w : World} {pv : Value} {es : List Ex} (h : Parts S w pv es) : ∃ po pn pc,pv = .slice po pn pc := by
  obtain ⟨n,h⟩ := h
  cases n with
  | zero => exact ⟨_,_,_,h.2⟩
  | succ n =>
    rcases h with ⟨_,h⟩ | ⟨g,cap,cur,h,_⟩
    · exact ⟨_,_,_,h⟩
    · exact ⟨_,_,_,h⟩
theorem Parts.row {S : Nat → Prop} {g cap : Nat} {w : World} {cur : Array Value} {es : List Ex} (hlo : S g) (hc : es.length ≤ cap) (hb : w.heap[g]? = some (.cells cur 231 (0,0)))
    (h : ∀ j,(h : j < es.length) → ∃ pj,(cur.toList.drop (j * 5)).take 5 = exCells es[j] pj ∧ Parts S w pj es[j].parts) : Parts S w (.slice (some ⟨g,0,none⟩) es.length cap) es := by
  have key : ∃ n,∀ j,(h : j < es.length) → ∃ pj,(cur.toList.drop (j * 5)).take 5 = exCells es[j] pj ∧ PartsN n S w pj es[j].parts := by
    have : ∀ m,m ≤ es.length → ∃ n,∀ j,(h : j < es.length) → j < m → ∃ pj,(cur.toList.drop (j * 5)).take 5 = exCells es[j] pj ∧ PartsN n S w pj es[j].parts := by
      intro m
      induction m with
      | zero => intro _; exact ⟨0,fun j _ hj => by omega⟩
      | succ m ih =>
        intro hm
        obtain ⟨n,hn⟩ := ih (by omega)
        obtain ⟨pj,a,n',b⟩ := h m (by omega)
        refine ⟨max n n',fun j hj hjm => ?_⟩
        by_cases e : j = m
        · subst e; exact ⟨pj,a,b.mono (by omega)⟩
        · obtain ⟨pj',a',b'⟩ := hn j hj (by omega)
          exact ⟨pj',a',b'.mono (by omega)⟩
    obtain ⟨n,hn⟩ := this es.length (Nat.le_refl _)
    exact ⟨n,fun j hj => hn j hj hj⟩
  obtain ⟨n,hn⟩ := key
  exact ⟨n + 1,Or.inr ⟨g,cap,cur,rfl,hlo,hc,hb,hn⟩⟩
theorem Parts.new1 {S : Nat → Prop} {w : World} {a : Ex} {pa : Value} (hS : S w.heap.size) (ha : Parts S w pa a.parts) :
    Parts S (w.alloc (.cells #[.int .i64 a.kind,.int .i64 a.place,.string ⟨a.name.toArray⟩,.int .i64 a.value,pa] 231)) (.slice (some ⟨w.heap.size,0,none⟩) 1 1) [a] :=
  Parts.row (es := [a]) hS (Nat.le_refl _) (block_new _ _) fun j hj => by
    match j,hj with
    | 0,_ => exact ⟨pa,rfl,ha.alloc _⟩
theorem Parts.new2 {S : Nat → Prop} {w : World} {a b : Ex} {pa pb : Value} (hS : S w.heap.size) (ha : Parts S w pa a.parts) (hb : Parts S w pb b.parts) :
    Parts S (w.alloc (.cells #[.int .i64 a.kind,.int .i64 a.place,.string ⟨a.name.toArray⟩,.int .i64 a.value,pa,.int .i64 b.kind,.int .i64 b.place,.string ⟨b.name.toArray⟩,.int .i64 b.value,pb] 231)) (.slice (some ⟨w.heap.size,0,none⟩) 2 2) [a,b] :=
  Parts.row (es := [a,b]) hS (Nat.le_refl _) (block_new _ _) fun j hj => by
    match j,hj with
    | 0,_ => exact ⟨pa,rfl,ha.alloc _⟩
    | 1,_ => exact ⟨pb,rfl,hb.alloc _⟩
theorem Parts.new3 {S : Nat → Prop} {w : World} {a b c : Ex} {pa pb pc : Value} (hS : S w.heap.size) (ha : Parts S w pa a.parts) (hb : Parts S w pb b.parts) (hc : Parts S w pc c.parts) :
    Parts S (w.alloc (.cells #[.int .i64 a.kind,.int .i64 a.place,.string ⟨a.name.toArray⟩,.int .i64 a.value,pa,.int .i64 b.kind,.int .i64 b.place,.string ⟨b.name.toArray⟩,.int .i64 b.value,pb,.int .i64 c.kind,.int .i64 c.place,.string ⟨c.name.toArray⟩,.int .i64 c.value,pc] 231)) (.slice (some ⟨w.heap.size,0,none⟩) 3 3) [a,b,c] :=
  Parts.row (es := [a,b,c]) hS (Nat.le_refl _) (block_new _ _) fun j hj => by
    match j,hj with
    | 0,_ => exact ⟨pa,rfl,ha.alloc _⟩
    | 1,_ => exact ⟨pb,rfl,hb.alloc _⟩
    | 2,_ => exact ⟨pc,rfl,hc.alloc _⟩
theorem Parts.fin1 {S : Nat → Prop} {w : World} {a : Ex} {pa : Value} (hS : S w.heap.size) (ha : Parts S w pa a.parts) (b : Nat) (hb : ¬ S b) (c0 c1 c2 c3 c4 : Value) :
    Parts S ((((((w.setCell ⟨b,0,none⟩ c0).setCell ⟨b,1,none⟩ c1).setCell ⟨b,2,none⟩ c2).setCell ⟨b,3,none⟩ c3).setCell ⟨b,4,none⟩ c4).alloc (.cells #[.int .i64 a.kind,.int .i64 a.place,.string ⟨a.name.toArray⟩,.int .i64 a.value,pa] 231)) (.slice (some ⟨w.heap.size,0,none⟩) 1 1) [a] := by
  have := Parts.new1 (S := S) (w := (((((w.setCell ⟨b,0,none⟩ c0).setCell ⟨b,1,none⟩ c1).setCell ⟨b,2,none⟩ c2).setCell ⟨b,3,none⟩ c3).setCell ⟨b,4,none⟩ c4)) (by rw [size_set5]; exact hS) (ha.set5 b c0 c1 c2 c3 c4 hb)
  rw [size_set5] at this
  exact this
theorem Parts.fin2 {S : Nat → Prop} {w : World} {a a' : Ex} {pa pa' : Value} (hS : S w.heap.size) (ha : Parts S w pa a.parts) (ha' : Parts S w pa' a'.parts) (b : Nat) (hb : ¬ S b) (c0 c1 c2 c3 c4 : Value) :
    Parts S ((((((w.setCell ⟨b,0,none⟩ c0).setCell ⟨b,1,none⟩ c1).setCell ⟨b,2,none⟩ c2).setCell ⟨b,3,none⟩ c3).setCell ⟨b,4,none⟩ c4).alloc (.cells #[.int .i64 a.kind,.int .i64 a.place,.string ⟨a.name.toArray⟩,.int .i64 a.value,pa,.int .i64 a'.kind,.int .i64 a'.place,.string ⟨a'.name.toArray⟩,.int .i64 a'.value,pa'] 231)) (.slice (some ⟨w.heap.size,0,none⟩) 2 2) [a,a'] := by
  have := Parts.new2 (S := S) (w := (((((w.setCell ⟨b,0,none⟩ c0).setCell ⟨b,1,none⟩ c1).setCell ⟨b,2,none⟩ c2).setCell ⟨b,3,none⟩ c3).setCell ⟨b,4,none⟩ c4)) (by rw [size_set5]; exact hS) (ha.set5 b c0 c1 c2 c3 c4 hb) (ha'.set5 b c0 c1 c2 c3 c4 hb)
  rw [size_set5] at this
  exact this
def bin (k : Nat) (l r : Ex) : Ex := ⟨k,l.place,[],0,[l,r]⟩
def pairKindB (t : List UInt8) : Nat := if t == [60] then 7 else if t == [61,61] then 8 else if t == [43] then 9 else if t == [45] then 10 else if t == [42] then 11 else 12
def zeroEx : Ex := ⟨0,0,[],0,[]⟩
def digitsB (l : List UInt8) : Nat := l.foldl (fun n c => 10 * n + (c.toNat - 48)) 0
def pairR (ws : List Wd) (read : PS → Ex × PS) (l : Ex) (st : PS) : Ex × PS :=
  (bin (pairKindB (st.cur ws).text) l (read (st.next ws)).1,(read (st.next ws)).2)
def chainN (ws : List Wd) (read : PS → Ex × PS) (signs : List (List UInt8)) : Nat → Ex → PS → Ex × PS
  | 0,l,st => (l,st)
  | n + 1,l,st => if st.isAt ws signs then chainN ws read signs n (pairR ws read l st).1 (pairR ws read l st).2 else (l,st)
def chainR (ws : List Wd) (read : PS → Ex × PS) (signs : List (List UInt8)) (st : PS) : Ex × PS := chainN ws read signs ws.length (read st).1 (read st).2
def termR (ws : List Wd) (fa : PS → Ex × PS) : PS → Ex × PS := chainR ws fa [[42],[47]]
def sumR (ws : List Wd) (fa : PS → Ex × PS) : PS → Ex × PS := chainR ws (termR ws fa) [[43],[45]]
def compareR (ws : List Wd) (fa : PS → Ex × PS) (st : PS) : Ex × PS :=
  if (sumR ws fa st).2.isAt ws [[60],[61,61]] then pairR ws (sumR ws fa) (sumR ws fa st).1 (sumR ws fa st).2 else sumR ws fa st
def choiceR (ws : List Wd) (ex : PS → Ex × PS) (st : PS) : Ex × PS :=
  let c := ex (st.next ws)
  let t := ex (c.2.expect ws [116,104,101,110])
  let f := ex (t.2.expect ws [101,108,115,101])
  (⟨5,(st.cur ws).place,[],0,[c.1,t.1,f.1]⟩,f.2)
def bindingR (ws : List Wd) (ex : PS → Ex × PS) (st : PS) : Ex × PS :=
  let v := ex (((st.next ws).nameTo ws).expect ws [61])
  let r := ex (v.2.expect ws [105,110])
  (⟨6,(st.cur ws).place,((st.next ws).nameWd ws).text,0,[v.1,r.1]⟩,r.2)
def exprR (ws : List Wd) (ex fa : PS → Ex × PS) (st : PS) : Ex × PS :=
  if st.isAt ws [[105,102]] then choiceR ws ex st else if st.isAt ws [[108,101,116]] then bindingR ws ex st else compareR ws fa st
def argsN (ws : List Wd) (ex : PS → Ex × PS) : Nat → PS → List Ex × PS
  | 0,st => ([],st)
  | n + 1,st => if st.isAt ws [[44]] then ((ex (st.next ws)).1 :: (argsN ws ex n (ex (st.next ws)).2).1,(argsN ws ex n (ex (st.next ws)).2).2) else ([],st)
def argsR (ws : List Wd) (ex : PS → Ex × PS) (st : PS) : List Ex × PS :=
  let s1 := st.expect ws [40]
  if s1.isAt ws [[41]] then ([],s1.next ws)
  else ((ex s1).1 :: (argsN ws ex ws.length (ex s1).2).1,(argsN ws ex ws.length (ex s1).2).2.expect ws [41])
def namedR (ws : List Wd) (ex : PS → Ex × PS) (st : PS) : Ex × PS :=
  if (st.next ws).isAt ws [[40]] then (⟨3,(st.cur ws).place,(st.cur ws).text,0,(argsR ws ex (st.next ws)).1⟩,(argsR ws ex (st.next ws)).2)
  else (⟨2,(st.cur ws).place,(st.cur ws).text,0,[]⟩,st.next ws)
def truthR (ws : List Wd) (st : PS) : Ex × PS := (⟨1,(st.cur ws).place,[],if (st.cur ws).text == [116,114,117,101] then 1 else 0,[]⟩,st.next ws)
def numberR (ws : List Wd) (st : PS) : Ex × PS := (⟨0,(st.cur ws).place,[],digitsB (st.cur ws).text,[]⟩,st.next ws)
def bracketR (ws : List Wd) (ex : PS → Ex × PS) (st : PS) : Ex × PS :=
  (⟨4,(st.cur ws).place,[],0,[(ex (st.next ws)).1]⟩,(ex (st.next ws)).2.expect ws [41])
def signR (ws : List Wd) (fa : PS → Ex × PS) (k : Nat) (st : PS) : Ex × PS := (⟨k,(st.cur ws).place,[],0,[(fa (st.next ws)).1]⟩,(fa (st.next ws)).2)
def factorR (ws : List Wd) (ex fa : PS → Ex × PS) (st : PS) : Ex × PS :=
  if (st.cur ws).kind = 3 then numberR ws st
  else if (st.cur ws).kind = 2 then namedR ws ex st
  else if st.isAt ws [[116,114,117,101],[102,97,108,115,101]] then truthR ws st
  else if st.isAt ws [[40]] then bracketR ws ex st
  else if st.isAt ws [[45]] then signR ws fa 13 st
  else if st.isAt ws [[33]] then signR ws fa 14 st
  else (zeroEx,st.fail ws)
def rd (ws : List Wd) : Nat → (PS → Ex × PS) × (PS → Ex × PS)
  | 0 => (fun st => (zeroEx,st),fun st => (zeroEx,st))
  | n + 1 => (exprR ws (rd ws n).1 (factorR ws (rd ws n).1 (rd ws n).2),factorR ws (rd ws n).1 (rd ws n).2)
def PS.rem (ws : List Wd) (st : PS) : Nat := ws.length - 1 - st.i
def Gave (P : Pl) (ws : List Wd) (w : World) (st : PS) (r : Ex × PS) (e : Ending) (w' : World) : Prop :=
  ∃ pv,e = .returned (exVal r.1 pv) ∧ Ok P ws w r.2 w' ∧ Parts (fun k => w.heap.size ≤ k) w' pv r.1.parts ∧ st.i ≤ r.2.i
def Reads (K : Nat) (ws : List Wd) (P : Pl) (m : Nat) (R : PS → Ex × PS) : Prop :=
  ∀ st w,Prs P ws st w → st.rem ws < m → Calls Tryz.prog K #[.pointer (some ⟨P.pb,0,none⟩)] w (Gave P ws w st (R st))
theorem PS.next_ge {ws : List Wd} {st : PS} (h : st.i < ws.length) : st.i ≤ (st.next ws).i := by simp only [PS.next]; omega
theorem PS.fail_ge {ws : List Wd} {st : PS} (h : st.i < ws.length) : st.i ≤ (st.fail ws).i := by simp only [PS.fail]; omega
theorem PS.expect_ge {ws : List Wd} {st : PS} (t : List UInt8) (h : st.i < ws.length) : st.i ≤ (st.expect ws t).i := by
  unfold PS.expect; split
  · exact PS.next_ge h
  · exact PS.fail_ge h
theorem PS.isAt_lt {ws : List Wd} {s : PS} {l : List (List UInt8)} (hl : ∀ s : PS,s.i + 1 = ws.length → (s.cur ws).kind = 0) (h : s.isAt ws l = true) (hs : s.i < ws.length) : s.i + 1 < ws.length := by
  rcases Nat.lt_or_ge (s.i + 1) ws.length with h' | h'
  · exact h'
  · have := hl s (by omega)
    simp [PS.isAt,this] at h
theorem PS.kind_lt {ws : List Wd} {s : PS} (hl : ∀ s : PS,s.i + 1 = ws.length → (s.cur ws).kind = 0) (h : (s.cur ws).kind ≠ 0) (hs : s.i < ws.length) : s.i + 1 < ws.length := by
  rcases Nat.lt_or_ge (s.i + 1) ws.length with h' | h'
  · exact h'
  · exact absurd (hl s (by omega)) h
theorem PS.rem_next {ws : List Wd} {s : PS} (h : s.i + 1 < ws.length) : (s.next ws).rem ws + 1 = s.rem ws := by simp only [PS.rem,PS.next]; omega
theorem PS.rem_le {ws : List Wd} {st st' : PS} (h : st.i ≤ st'.i) : st'.rem ws ≤ st.rem ws := by simp only [PS.rem]; omega
end Go.Proofs.YtpmmjkiclngpmaaGreatDoor
