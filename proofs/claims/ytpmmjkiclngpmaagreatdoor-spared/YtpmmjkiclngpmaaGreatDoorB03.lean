/- YtpmmjkiclngpmaaGreatDoorB03 -/
import Derived.Test.YtpmmjkiclngpmaaGreatDoorB02
import Derived.Deep.RegionWith
import Derived.Deep.LoopGhost
set_option maxRecDepth 100000
set_option linter.unusedSimpArgs false
set_option linter.unusedVariables false
set_option maxHeartbeats 12800000
namespace Go.Proofs.YtpmmjkiclngpmaaGreatDoor
open Go.RowKit
theorem sign_any (P : Pl) (ws : List Wd) (m : Nat) (R : PS → Ex × PS) (hR : Reads 288 ws P m R) (st : PS) (w : World) (hp : Prs P ws st w) (hm : (st.next ws).rem ws < m) (k : Nat) :
    Calls Tryz.prog 293 #[.pointer (some ⟨P.pb,0,none⟩),.int .i64 k] w (Gave P ws w st (signR ws R k st)) := by
  have h1 := lt_of_some hp.blk
  have HL := hide hp.lt
  have HQ := hide (Ok.refl hp)
  have HR := hide hR
  clear hp hR
  have fw2 := fieldw2
  go_enter Tryz.func293,Tryz.ntmps293
  go_wp2_with fail
  refine (advance_any P ws st _ (by refine Ok.prs (w0 := w) ?_; repeat (first | exact HQ.out | refine Ok.alloc ?_ _ | refine Ok.drew ?_ | refine Ok.set ?_ _ _ _ (by omega)))).mono ?_
  rintro e w1 ⟨rfl,hb⟩
  have HO1 := hide ((HQ.out.alloc _).go hb)
  have HB1 := hide (hb.1)
  have hs1 := HO1.out.size
  clear hb
  unfold wdVal
  go_wp2_with fail
  refine (HR.out (st.next ws) _ (by refine Ok.prs (w0 := w) ?_; repeat (first | exact HO1.out | refine Ok.alloc ?_ _ | refine Ok.drew ?_ | refine Ok.set ?_ _ _ _ (by omega))) hm).mono ?_
  rintro e w2 ⟨pv,rfl,hok,hpa,hge⟩
  have HO2 := hide (HO1.out.trans hok)
  have hs2 := HO2.out.size
  have hs12 := hok.size
  have HZ := hide (res_block (HB1.out.trans hok.but) h1)
  obtain ⟨po,pn,pc,rfl⟩ := hpa.shape
  have HP2 := hide hpa
  have HG := hide hge
  clear hok hpa hge
  have z0 := cell_block HZ.out 0
  have z1 := cell_block HZ.out 1
  have z2 := cell_block HZ.out 2
  have z3 := cell_block HZ.out 3
  have z4 := cell_block HZ.out 4
  have zf := free_block HZ.out
  have zs := lt_of_some HZ.out
  simp at z0 z1 z2 z3 z4
  unfold exVal
  generalize hr : R (st.next ws) = r at *
  have HE := hide hr
  clear hr
  go_wp2
  refine bodyPost_ret (v := exVal (signR ws R k st).1 (.slice (some ⟨w2.heap.size,0,none⟩) 1 1)) (by simp [results,Tryz.results293,go_sem,z0,z1,z2,z3,z4,zs,exVal,signR]) rfl ⟨_,rfl,?_,?_,?_⟩
  · show Ok P ws w (R (st.next ws)).2 _
    rw [HE.out]
    exact (HO2.out.set5 _ (Nat.le_refl _) _ _ _ _ _).alloc _
  · show Parts _ _ _ [(R (st.next ws)).1]
    rw [HE.out]
    exact (Parts.fin1 (S := fun k => w1.heap.size ≤ k) (by omega) HP2.out w.heap.size (by have := HB1.out.size; simp at this; omega) _ _ _ _ _).mono (fun k h _ => by omega)
  show st.i ≤ (R (st.next ws)).2.i
  rw [HE.out]; exact Nat.le_trans (PS.next_ge HL.out) HG.out
theorem bracket_any (P : Pl) (ws : List Wd) (m : Nat) (R : PS → Ex × PS) (hR : Reads 208 ws P m R) (st : PS) (w : World) (hp : Prs P ws st w) (hm : (st.next ws).rem ws < m) :
    Calls Tryz.prog 292 #[.pointer (some ⟨P.pb,0,none⟩)] w (Gave P ws w st (bracketR ws R st)) := by
  have h1 := lt_of_some hp.blk
  have HL := hide hp.lt
  have HQ := hide (Ok.refl hp)
  have HR := hide hR
  clear hp hR
  have fw2 := fieldw2
  go_enter Tryz.func292,Tryz.ntmps292
  go_wp2_with fail
  refine (advance_any P ws st _ (by refine Ok.prs (w0 := w) ?_; repeat (first | exact HQ.out | refine Ok.alloc ?_ _ | refine Ok.drew ?_ | refine Ok.set ?_ _ _ _ (by omega)))).mono ?_
  rintro e w1 ⟨rfl,hb⟩
  have HO1 := hide ((HQ.out.alloc _).go hb)
  have HB1 := hide (hb.1)
  have hs1 := HO1.out.size
  have hs1' := hb.1.size
  simp at hs1'
  clear hb
  unfold wdVal
  go_wp2_with fail
  refine (HR.out (st.next ws) _ (by refine Ok.prs (w0 := w) ?_; repeat (first | exact HO1.out | refine Ok.alloc ?_ _ | refine Ok.drew ?_ | refine Ok.set ?_ _ _ _ (by omega))) hm).mono ?_
  rintro e w2 ⟨pv,rfl,hok,hpa,hge⟩
  have HO2 := hide (HO1.out.trans hok)
  have HB2 := hide (HB1.out.trans hok.but)
  have hs2 := HO2.out.size
  have hs12 := hok.size
  obtain ⟨po,pn,pc,rfl⟩ := hpa.shape
  have HP2 := hide hpa
  have HG := hide hge
  clear hok hpa hge
  unfold exVal
  generalize hr : R (st.next ws) = r at *
  have HE := hide hr
  clear hr
  go_wp2_with fail
  refine (expect_any P ws r.2 _ (by refine Ok.prs (w0 := w) ?_; exact HO2.out.alloc _) [41]).mono ?_
  rintro e w3 ⟨rfl,hb3⟩
  have HO3 := hide ((HO2.out.alloc _).go hb3)
  have HLt := hide HO2.out.prs.lt
  have HZ := hide (res_block ((HB2.out.alloc _).trans hb3.1) h1)
  have HLb := hide ((hb3.1.block _ (by simp) (by omega)).trans (block_new w2 _))
  have HP3 := hide ((HP2.out.alloc _).but (S' := fun k => w1.heap.size ≤ k) hb3.1 (fun k h _ => ⟨h,by omega⟩))
  have hs3 := hb3.1.size
  simp at hs3
  clear hb3
  have z0 := cell_block HZ.out 0
  have z1 := cell_block HZ.out 1
  have z2 := cell_block HZ.out 2
  have z3 := cell_block HZ.out 3
  have z4 := cell_block HZ.out 4
  have zf := free_block HZ.out
  have zs := lt_of_some HZ.out
  simp at z0 z1 z2 z3 z4
  have l0 := cell_block HLb.out 0
  have l1 := cell_block HLb.out 1
  have l2 := cell_block HLb.out 2
  have l3 := cell_block HLb.out 3
  have l4 := cell_block HLb.out 4
  have lf := free_block HLb.out
  have ls := lt_of_some HLb.out
  simp at l0 l1 l2 l3 l4
  go_wp2
  refine bodyPost_ret (v := exVal (bracketR ws R st).1 (.slice (some ⟨w3.heap.size,0,none⟩) 1 1)) (by simp [results,Tryz.results292,go_sem,z0,z1,z2,z3,z4,zs,exVal,bracketR]) rfl ⟨_,rfl,?_,?_,?_⟩
  · show Ok P ws w ((R (st.next ws)).2.expect ws [41]) _
    rw [HE.out]
    exact (HO3.out.set5 _ (Nat.le_refl _) _ _ _ _ _).alloc _
  · show Parts _ _ _ [(R (st.next ws)).1]
    rw [HE.out]
    exact (Parts.fin1 (S := fun k => w1.heap.size ≤ k) (by omega) HP3.out w.heap.size (by omega) _ _ _ _ _).mono (fun k h _ => by omega)
  show st.i ≤ ((R (st.next ws)).2.expect ws [41]).i
  rw [HE.out]; exact Nat.le_trans (Nat.le_trans (PS.next_ge HL.out) HG.out) (PS.expect_ge _ HLt.out)
theorem truth_any (P : Pl) (ws : List Wd) (st : PS) (w : World) (hp : Prs P ws st w) :
    Calls Tryz.prog 291 #[.pointer (some ⟨P.pb,0,none⟩)] w (Gave P ws w st (truthR ws st)) := by
  have h1 := lt_of_some hp.blk
  have HL := hide hp.lt
  have HQ := hide (Ok.refl hp)
  clear hp
  rcases ht : ((st.cur ws).text == [116,114,117,101]) with _ | _
  all_goals
    have HT := hide ht
    go_enter Tryz.func291,Tryz.ntmps291
    go_wp2_with fail
    refine (advance_any P ws st _ (by refine Ok.prs (w0 := w) ?_; repeat (first | exact HQ.out | refine Ok.alloc ?_ _ | refine Ok.drew ?_ | refine Ok.set ?_ _ _ _ (by omega)))).mono ?_
    rintro e w1 ⟨rfl,hb⟩
    have HO1 := hide ((HQ.out.alloc _).go hb)
    have HZ := hide (res_block hb.1 h1)
    have hs1 := HO1.out.size
    have hs1' := hb.1.size
    simp at hs1'
    clear hb
    unfold wdVal
    have z0 := cell_block HZ.out 0
    have z1 := cell_block HZ.out 1
    have z2 := cell_block HZ.out 2
    have z3 := cell_block HZ.out 3
    have z4 := cell_block HZ.out 4
    have zf := free_block HZ.out
    have zs := lt_of_some HZ.out
    simp at z0 z1 z2 z3 z4
    go_wp2
    refine bodyPost_ret (v := exVal (truthR ws st).1 (.slice none 0 0)) (by simp [results,Tryz.results291,go_sem,z0,z1,z2,z3,z4,zs,exVal,truthR,ht]) rfl ⟨_,rfl,?_,Parts.nil _ _,PS.next_ge HL.out⟩
    exact ((HO1.out.set5 _ (Nat.le_refl _) _ _ _ _ _).alloc _).alloc _
theorem pairKind_any (t : List UInt8) (w : World) :
    Calls Tryz.prog 285 #[.string ⟨t.toArray⟩] w fun e w' => e = .returned (.int .i64 (pairKindB t)) ∧ w' = w := by
  rcases q0 : (t == [60]) with _ | _ <;> rcases q1 : (t == [61,61]) with _ | _ <;> rcases q2 : (t == [43]) with _ | _ <;> rcases q3 : (t == [45]) with _ | _ <;> rcases q4 : (t == [42]) with _ | _ <;>
  (have HK := hide (show pairKindB t = _ by simp only [pairKindB,q0,q1,q2,q3,q4,if_true,if_false,Bool.false_eq_true]; rfl)
   go_enter Tryz.func285,Tryz.ntmps285
   go_wp2
   go_ret
   exact ⟨ret_int (by rw [HK.out]; rfl),rfl⟩)
end Go.Proofs.YtpmmjkiclngpmaaGreatDoor
namespace Go.Proofs.YtpmmjkiclngpmaaGreatDoor
open Go.RowKit
theorem pair_factor (P : Pl) (ws : List Wd) (m : Nat) (R : PS → Ex × PS) (hR : Reads 288 ws P m R) (st : PS) (w : World) (hp : Prs P ws st w) (hm : (st.next ws).rem ws < m)
    (l : Ex) (po : Option Addr) (pn pc : Nat) (S : Nat → Prop) (hl : Parts S w (.slice po pn pc) l.parts) (hS : ∀ k,S k → k ≠ P.pb) :
    Calls Tryz.prog 278 #[.pointer (some ⟨P.pb,0,none⟩),exVal l (.slice po pn pc),.func (.func 288) #[.pointer (some ⟨P.pb,0,none⟩)] #[]] w fun e w' =>
      ∃ pv,e = .returned (exVal (pairR ws R l st).1 pv) ∧ Ok P ws w (pairR ws R l st).2 w' ∧ Parts (fun k => S k ∧ k < w.heap.size ∨ w.heap.size + 2 ≤ k) w' pv (pairR ws R l st).1.parts ∧ (st.next ws).i ≤ (pairR ws R l st).2.i := by
  have h1 := lt_of_some hp.blk
  have HQ := hide (Ok.refl hp)
  have HR := hide hR
  have HL := hide hl
  have HS := hide hS
  clear hp hR hl hS
  have fw1 := fieldw1
  unfold exVal
  go_enter Tryz.func278,Tryz.ntmps278
  go_wp2_with fail
  refine (advance_any P ws st _ (by exact ((HQ.out.alloc _).alloc _).prs)).mono ?_
  rintro e w1 ⟨rfl,hb⟩
  have HO1 := hide (((HQ.out.alloc _).alloc _).go hb)
  have HBx := hide ((hb.1.block w.heap.size (by simp; omega) (by omega)).trans (block_alloc (block_new w _) _))
  have HZ := hide ((hb.1.block (w.heap.size + 1) (by simp) (by omega)).trans (block_new2 w _ _))
  have HL1 := hide (((HL.out.bound.alloc _).alloc _).but (S' := fun k => S k ∧ k < w.heap.size ∨ w.heap.size + 2 ≤ k) hb.1 (fun k h _ => ⟨Or.inl h,HS.out k h.1⟩))
  have hs1 := hb.1.size
  simp at hs1
  clear hb
  unfold wdVal
  go_wp2_with fail
  refine (pairKind_any _ _).mono ?_
  rintro e w1' ⟨rfl,rfl⟩
  have l0 := cell_block HBx.out 0
  have l1 := cell_block HBx.out 1
  have l2 := cell_block HBx.out 2
  have l3 := cell_block HBx.out 3
  have l4 := cell_block HBx.out 4
  have lf := free_block HBx.out
  have ls := lt_of_some HBx.out
  simp at l0 l1 l2 l3 l4
  have z0 := cell_block HZ.out 0
  have z1 := cell_block HZ.out 1
  have z2 := cell_block HZ.out 2
  have z3 := cell_block HZ.out 3
  have z4 := cell_block HZ.out 4
  have zf := free_block HZ.out
  have zs := lt_of_some HZ.out
  simp at z0 z1 z2 z3 z4
  go_wp2_with fail
  go_region_with (go_at_call 288; go_must (refine (HR.out (st.next ws) _ (by first | exact HO1.out.prs | exact HO1.out.drew.prs) hm).mono ?_; rintro e w2 ⟨qv,rfl,hok,hpa,hge⟩; obtain ⟨qo,qn,qc,rfl⟩ := hpa.shape; have HBx2 := hide ((hok.but.block w.heap.size ls (by omega)).trans HBx.out); have HZ2 := hide ((hok.but.block (w.heap.size + 1) zs (by omega)).trans HZ.out); have m0 := cell_block HBx2.out 0; have m1 := cell_block HBx2.out 1; have m2 := cell_block HBx2.out 2; have m3 := cell_block HBx2.out 3; have m4 := cell_block HBx2.out 4; have y0 := cell_block HZ2.out 0; have y1 := cell_block HZ2.out 1; have y2 := cell_block HZ2.out 2; have y3 := cell_block HZ2.out 3; have y4 := cell_block HZ2.out 4; have yf := free_block HZ2.out; have ys := lt_of_some HZ2.out; have ms := lt_of_some HBx2.out; simp at m0 m1 m2 m3 m4 y0 y1 y2 y3 y4; have HOK := hide hok; have HPA := hide hpa; have HGE := hide hge; clear hok hpa hge; unfold exVal))
  all_goals
    go_wp2
    refine bodyPost_ret (v := exVal (pairR ws R l st).1 (.slice (some ⟨w2.heap.size,0,none⟩) 2 2)) (by simp [results,Tryz.results278,go_sem,y0,y1,y2,y3,y4,ys,exVal,pairR,bin]) rfl ⟨_,rfl,?_,?_,?_⟩
    · show Ok P ws w (R (st.next ws)).2 _
      exact ((HO1.out.drew.trans HOK.out).set5 _ (by omega) _ _ _ _ _).alloc _
    · show Parts _ _ _ [l,(R (st.next ws)).1]
      exact Parts.fin2 (S := fun k => S k ∧ k < w.heap.size ∨ w.heap.size + 2 ≤ k) (Or.inr (by omega)) (HL1.out.drew.but HOK.out.but (fun k h _ => ⟨h,by rcases h with h | h; exact HS.out k h.1; omega⟩)) (HPA.out.mono (fun k h _ => Or.inr (Nat.le_trans hs1 h))) (w.heap.size + 1) (by omega) _ _ _ _ _
    · exact HGE.out
end Go.Proofs.YtpmmjkiclngpmaaGreatDoor
namespace Go.Proofs.YtpmmjkiclngpmaaGreatDoor
open Go.RowKit
theorem pair_term (P : Pl) (ws : List Wd) (m : Nat) (R : PS → Ex × PS) (hR : Reads 284 ws P m R) (st : PS) (w : World) (hp : Prs P ws st w) (hm : (st.next ws).rem ws < m)
    (l : Ex) (po : Option Addr) (pn pc : Nat) (S : Nat → Prop) (hl : Parts S w (.slice po pn pc) l.parts) (hS : ∀ k,S k → k ≠ P.pb) :
    Calls Tryz.prog 278 #[.pointer (some ⟨P.pb,0,none⟩),exVal l (.slice po pn pc),.func (.func 284) #[.pointer (some ⟨P.pb,0,none⟩)] #[]] w fun e w' =>
      ∃ pv,e = .returned (exVal (pairR ws R l st).1 pv) ∧ Ok P ws w (pairR ws R l st).2 w' ∧ Parts (fun k => S k ∧ k < w.heap.size ∨ w.heap.size + 2 ≤ k) w' pv (pairR ws R l st).1.parts ∧ (st.next ws).i ≤ (pairR ws R l st).2.i := by
  have h1 := lt_of_some hp.blk
  have HQ := hide (Ok.refl hp)
  have HR := hide hR
  have HL := hide hl
  have HS := hide hS
  clear hp hR hl hS
  have fw1 := fieldw1
  unfold exVal
  go_enter Tryz.func278,Tryz.ntmps278
  go_wp2_with fail
  refine (advance_any P ws st _ (by exact ((HQ.out.alloc _).alloc _).prs)).mono ?_
  rintro e w1 ⟨rfl,hb⟩
  have HO1 := hide (((HQ.out.alloc _).alloc _).go hb)
  have HBx := hide ((hb.1.block w.heap.size (by simp; omega) (by omega)).trans (block_alloc (block_new w _) _))
  have HZ := hide ((hb.1.block (w.heap.size + 1) (by simp) (by omega)).trans (block_new2 w _ _))
  have HL1 := hide (((HL.out.bound.alloc _).alloc _).but (S' := fun k => S k ∧ k < w.heap.size ∨ w.heap.size + 2 ≤ k) hb.1 (fun k h _ => ⟨Or.inl h,HS.out k h.1⟩))
  have hs1 := hb.1.size
  simp at hs1
  clear hb
  unfold wdVal
  go_wp2_with fail
  refine (pairKind_any _ _).mono ?_
  rintro e w1' ⟨rfl,rfl⟩
  have l0 := cell_block HBx.out 0
  have l1 := cell_block HBx.out 1
  have l2 := cell_block HBx.out 2
  have l3 := cell_block HBx.out 3
  have l4 := cell_block HBx.out 4
  have lf := free_block HBx.out
  have ls := lt_of_some HBx.out
  simp at l0 l1 l2 l3 l4
  have z0 := cell_block HZ.out 0
  have z1 := cell_block HZ.out 1
  have z2 := cell_block HZ.out 2
  have z3 := cell_block HZ.out 3
  have z4 := cell_block HZ.out 4
  have zf := free_block HZ.out
  have zs := lt_of_some HZ.out
  simp at z0 z1 z2 z3 z4
  go_wp2_with fail
  go_region_with (go_at_call 284; go_must (refine (HR.out (st.next ws) _ (by first | exact HO1.out.prs | exact HO1.out.drew.prs) hm).mono ?_; rintro e w2 ⟨qv,rfl,hok,hpa,hge⟩; obtain ⟨qo,qn,qc,rfl⟩ := hpa.shape; have HBx2 := hide ((hok.but.block w.heap.size ls (by omega)).trans HBx.out); have HZ2 := hide ((hok.but.block (w.heap.size + 1) zs (by omega)).trans HZ.out); have m0 := cell_block HBx2.out 0; have m1 := cell_block HBx2.out 1; have m2 := cell_block HBx2.out 2; have m3 := cell_block HBx2.out 3; have m4 := cell_block HBx2.out 4; have y0 := cell_block HZ2.out 0; have y1 := cell_block HZ2.out 1; have y2 := cell_block HZ2.out 2; have y3 := cell_block HZ2.out 3; have y4 := cell_block HZ2.out 4; have yf := free_block HZ2.out; have ys := lt_of_some HZ2.out; have ms := lt_of_some HBx2.out; simp at m0 m1 m2 m3 m4 y0 y1 y2 y3 y4; have HOK := hide hok; have HPA := hide hpa; have HGE := hide hge; clear hok hpa hge; unfold exVal))
  all_goals
    go_wp2
    refine bodyPost_ret (v := exVal (pairR ws R l st).1 (.slice (some ⟨w2.heap.size,0,none⟩) 2 2)) (by simp [results,Tryz.results278,go_sem,y0,y1,y2,y3,y4,ys,exVal,pairR,bin]) rfl ⟨_,rfl,?_,?_,?_⟩
    · show Ok P ws w (R (st.next ws)).2 _
      exact ((HO1.out.drew.trans HOK.out).set5 _ (by omega) _ _ _ _ _).alloc _
    · show Parts _ _ _ [l,(R (st.next ws)).1]
      exact Parts.fin2 (S := fun k => S k ∧ k < w.heap.size ∨ w.heap.size + 2 ≤ k) (Or.inr (by omega)) (HL1.out.drew.but HOK.out.but (fun k h _ => ⟨h,by rcases h with h | h; exact HS.out k h.1; omega⟩)) (HPA.out.mono (fun k h _ => Or.inr (Nat.le_trans hs1 h))) (w.heap.size + 1) (by omega) _ _ _ _ _
    · exact HGE.out
end Go.Proofs.YtpmmjkiclngpmaaGreatDoor
namespace Go.Proofs.YtpmmjkiclngpmaaGreatDoor
open Go.RowKit
theorem pair_sum (P : Pl) (ws : List Wd) (m : Nat) (R : PS → Ex × PS) (hR : Reads 277 ws P m R) (st : PS) (w : World) (hp : Prs P ws st w) (hm : (st.next ws).rem ws < m)
    (l : Ex) (po : Option Addr) (pn pc : Nat) (S : Nat → Prop) (hl : Parts S w (.slice po pn pc) l.parts) (hS : ∀ k,S k → k ≠ P.pb) :
    Calls Tryz.prog 278 #[.pointer (some ⟨P.pb,0,none⟩),exVal l (.slice po pn pc),.func (.func 277) #[.pointer (some ⟨P.pb,0,none⟩)] #[]] w fun e w' =>
      ∃ pv,e = .returned (exVal (pairR ws R l st).1 pv) ∧ Ok P ws w (pairR ws R l st).2 w' ∧ Parts (fun k => S k ∧ k < w.heap.size ∨ w.heap.size + 2 ≤ k) w' pv (pairR ws R l st).1.parts ∧ (st.next ws).i ≤ (pairR ws R l st).2.i := by
  have h1 := lt_of_some hp.blk
  have HQ := hide (Ok.refl hp)
  have HR := hide hR
  have HL := hide hl
  have HS := hide hS
  clear hp hR hl hS
  have fw1 := fieldw1
  unfold exVal
  go_enter Tryz.func278,Tryz.ntmps278
  go_wp2_with fail
  refine (advance_any P ws st _ (by exact ((HQ.out.alloc _).alloc _).prs)).mono ?_
  rintro e w1 ⟨rfl,hb⟩
  have HO1 := hide (((HQ.out.alloc _).alloc _).go hb)
  have HBx := hide ((hb.1.block w.heap.size (by simp; omega) (by omega)).trans (block_alloc (block_new w _) _))
  have HZ := hide ((hb.1.block (w.heap.size + 1) (by simp) (by omega)).trans (block_new2 w _ _))
  have HL1 := hide (((HL.out.bound.alloc _).alloc _).but (S' := fun k => S k ∧ k < w.heap.size ∨ w.heap.size + 2 ≤ k) hb.1 (fun k h _ => ⟨Or.inl h,HS.out k h.1⟩))
  have hs1 := hb.1.size
  simp at hs1
  clear hb
  unfold wdVal
  go_wp2_with fail
  refine (pairKind_any _ _).mono ?_
  rintro e w1' ⟨rfl,rfl⟩
  have l0 := cell_block HBx.out 0
  have l1 := cell_block HBx.out 1
  have l2 := cell_block HBx.out 2
  have l3 := cell_block HBx.out 3
  have l4 := cell_block HBx.out 4
  have lf := free_block HBx.out
  have ls := lt_of_some HBx.out
  simp at l0 l1 l2 l3 l4
  have z0 := cell_block HZ.out 0
  have z1 := cell_block HZ.out 1
  have z2 := cell_block HZ.out 2
  have z3 := cell_block HZ.out 3
  have z4 := cell_block HZ.out 4
  have zf := free_block HZ.out
  have zs := lt_of_some HZ.out
  simp at z0 z1 z2 z3 z4
  go_wp2_with fail
  go_region_with (go_at_call 277; go_must (refine (HR.out (st.next ws) _ (by first | exact HO1.out.prs | exact HO1.out.drew.prs) hm).mono ?_; rintro e w2 ⟨qv,rfl,hok,hpa,hge⟩; obtain ⟨qo,qn,qc,rfl⟩ := hpa.shape; have HBx2 := hide ((hok.but.block w.heap.size ls (by omega)).trans HBx.out); have HZ2 := hide ((hok.but.block (w.heap.size + 1) zs (by omega)).trans HZ.out); have m0 := cell_block HBx2.out 0; have m1 := cell_block HBx2.out 1; have m2 := cell_block HBx2.out 2; have m3 := cell_block HBx2.out 3; have m4 := cell_block HBx2.out 4; have y0 := cell_block HZ2.out 0; have y1 := cell_block HZ2.out 1; have y2 := cell_block HZ2.out 2; have y3 := cell_block HZ2.out 3; have y4 := cell_block HZ2.out 4; have yf := free_block HZ2.out; have ys := lt_of_some HZ2.out; have ms := lt_of_some HBx2.out; simp at m0 m1 m2 m3 m4 y0 y1 y2 y3 y4; have HOK := hide hok; have HPA := hide hpa; have HGE := hide hge; clear hok hpa hge; unfold exVal))
  all_goals
    go_wp2
    refine bodyPost_ret (v := exVal (pairR ws R l st).1 (.slice (some ⟨w2.heap.size,0,none⟩) 2 2)) (by simp [results,Tryz.results278,go_sem,y0,y1,y2,y3,y4,ys,exVal,pairR,bin]) rfl ⟨_,rfl,?_,?_,?_⟩
    · show Ok P ws w (R (st.next ws)).2 _
      exact ((HO1.out.drew.trans HOK.out).set5 _ (by omega) _ _ _ _ _).alloc _
    · show Parts _ _ _ [l,(R (st.next ws)).1]
      exact Parts.fin2 (S := fun k => S k ∧ k < w.heap.size ∨ w.heap.size + 2 ≤ k) (Or.inr (by omega)) (HL1.out.drew.but HOK.out.but (fun k h _ => ⟨h,by rcases h with h | h; exact HS.out k h.1; omega⟩)) (HPA.out.mono (fun k h _ => Or.inr (Nat.le_trans hs1 h))) (w.heap.size + 1) (by omega) _ _ _ _ _
    · exact HGE.out
end Go.Proofs.YtpmmjkiclngpmaaGreatDoor
namespace Go.Proofs.YtpmmjkiclngpmaaGreatDoor
open Go.RowKit
theorem block_set5 {w : World} {b : Nat} {a0 a1 a2 a3 a4 : Value} {e : TypeId} {f : Nat × Nat} (h : w.heap[b]? = some (.cells #[a0,a1,a2,a3,a4] e f)) (c0 c1 c2 c3 c4 : Value) :
    (((((w.setCell ⟨b,0,none⟩ c0).setCell ⟨b,1,none⟩ c1).setCell ⟨b,2,none⟩ c2).setCell ⟨b,3,none⟩ c3).setCell ⟨b,4,none⟩ c4).heap[b]? = some (.cells #[c0,c1,c2,c3,c4] e f) := by
  rw [block_setCell (block_setCell (block_setCell (block_setCell (block_setCell h 0 c0) 1 c1) 2 c2) 3 c3) 4 c4]
  rfl
theorem block_set5_other {w : World} {b k : Nat} {x : Obj} (hk : k ≠ b) (h : w.heap[k]? = some x) (c0 c1 c2 c3 c4 : Value) :
    (((((w.setCell ⟨b,0,none⟩ c0).setCell ⟨b,1,none⟩ c1).setCell ⟨b,2,none⟩ c2).setCell ⟨b,3,none⟩ c3).setCell ⟨b,4,none⟩ c4).heap[k]? = some x := by
  rw [Below.heap_setCell _ _ _ _ hk,Below.heap_setCell _ _ _ _ hk,Below.heap_setCell _ _ _ _ hk,Below.heap_setCell _ _ _ _ hk,Below.heap_setCell _ _ _ _ hk,h]
theorem chain_factor (P : Pl) (ws : List Wd) (m : Nat) (R : PS → Ex × PS) (hR : Reads 288 ws P m R) (st : PS) (w : World) (hp : Prs P ws st w) (hm : st.rem ws < m)
    (hlast : ∀ s : PS,s.i + 1 = ws.length → (s.cur ws).kind = 0) (b : Nat) (t u : List UInt8) (hb0 : w.cell? ⟨b,0,none⟩ = some (.string ⟨t.toArray⟩)) (hb1 : w.cell? ⟨b,1,none⟩ = some (.string ⟨u.toArray⟩)) (hbb : b < w.heap.size) (hbp : b ≠ P.pb) :
    Calls Tryz.prog 283 #[.pointer (some ⟨P.pb,0,none⟩),.func (.func 288) #[.pointer (some ⟨P.pb,0,none⟩)] #[],.slice (some ⟨b,0,none⟩) 2 2] w (Gave P ws w st (chainR ws R [t,u] st)) := by
  have h1 := lt_of_some hp.blk
  have HQ := hide (Ok.refl hp)
  have HR := hide hR
  have HLa := hide hlast
  have HC0 := hide hb0
  have HC1 := hide hb1
  clear hp hR hlast hb0 hb1
  go_enter Tryz.func283,Tryz.ntmps283
  go_wp2_with fail
  refine (HR.out st _ (by exact (HQ.out.alloc _).prs) hm).mono ?_
  rintro e w1 ⟨qv,rfl,hok,hpa,hge⟩
  obtain ⟨qo,qn,qc,rfl⟩ := hpa.shape
  have HO1 := hide ((HQ.out.alloc _).trans hok)
  have hs1 := hok.size
  simp at hs1
  have HZ := hide ((hok.but.block w.heap.size (by simp) (by omega)).trans (block_new w _))
  have HPA := hide hpa
  have HGE := hide hge
  clear hok hpa hge
  unfold exVal
  go_wp2
  go_loopg [10] ws.length (fun n _ wr => ∃ (l : Ex) (s : PS) (lo : Option Addr) (ln lc : Nat),Hid (chainR ws R [t,u] st = chainN ws R [t,u] n l s) ∧ s.rem ws < n ∧ Hid (Ok P ws w s wr) ∧
      Hid (wr.heap[w1.heap.size]? = some (.cells #[.int .i64 l.kind,.int .i64 l.place,.string ⟨l.name.toArray⟩,.int .i64 l.value,.slice lo ln lc] 231 (0,0))) ∧
      Hid (wr.heap[w.heap.size]? = some (.cells #[.int .i64 0,.int .i64 0,.string ⟨#[]⟩,.int .i64 0,.slice none 0 0] 231 (0,0))) ∧
      Hid (Parts (fun k => w.heap.size + 1 ≤ k ∧ k ≠ w1.heap.size) wr (.slice lo ln lc) l.parts) ∧ st.i ≤ s.i)
  case atStart =>
    refine ⟨(R st).1,(R st).2,qo,qn,qc,rfl,?_,HO1.out.alloc _,block_new _ _,block_alloc HZ.out _,?_,HGE.out⟩
    · have := HO1.out.prs.lt; simp only [PS.rem]; omega
    · exact (HPA.out.bound.alloc _).mono (fun k h _ => ⟨by have := h.1; simp at this; omega,by have := h.2; omega⟩)
  obtain ⟨l,s,lo,ln,lc,HC,hrem,HO,HLb,HRb,HP,hge⟩ := hrel
  have hlt := HO.out.prs.lt
  have hsr := HO.out.size
  have hls := lt_of_some HLb.out
  rcases hat : s.isAt ws [t,u] with _ | _
  · have HF := hide (show chainR ws R [t,u] st = (l,s) by
      rw [HC.out]
      cases gk with
      | zero => omega
      | succ n => simp [chainN,hat])
    go_wp2_with fail
    refine (at_two P ws s _ (by exact HO.out.prs) b t u (by exact (HO.out.but.cell hbb hbp 0).trans HC0.out) (by exact (HO.out.but.cell hbb hbp 1).trans HC1.out) (by omega)).mono ?_
    rintro e w2 ⟨rfl,hb⟩
    rw [hat]
    have HO2 := hide (HO.out.below hb)
    have HLb2 := hide ((hb.block _ hls).trans HLb.out)
    have HRb2 := hide ((hb.block _ (lt_of_some HRb.out)).trans HRb.out)
    have HP2 := hide (HP.out.keep (S' := fun k => w.heap.size + 1 ≤ k ∧ k ≠ w1.heap.size) (fun k h1 h2 => ⟨h1,hb.block k h2⟩))
    clear hb
    have l0 := cell_block HLb2.out 0
    have l1 := cell_block HLb2.out 1
    have l2 := cell_block HLb2.out 2
    have l3 := cell_block HLb2.out 3
    have l4 := cell_block HLb2.out 4
    have lf := free_block HLb2.out
    have ls := lt_of_some HLb2.out
    simp at l0 l1 l2 l3 l4
    have z0 := cell_block HRb2.out 0
    have z1 := cell_block HRb2.out 1
    have z2 := cell_block HRb2.out 2
    have z3 := cell_block HRb2.out 3
    have z4 := cell_block HRb2.out 4
    have zf := free_block HRb2.out
    have zs := lt_of_some HRb2.out
    simp at z0 z1 z2 z3 z4
    go_wp2
    refine bodyPost_ret (v := exVal l (.slice lo ln lc)) (by simp [results,Tryz.results283,go_sem,z0,z1,z2,z3,z4,zs,exVal]) rfl ?_
    refine ⟨.slice lo ln lc,by rw [HF.out],?_,?_,?_⟩
    · rw [HF.out]; exact HO2.out.set5 _ (Nat.le_refl _) _ _ _ _ _
    · rw [HF.out]; exact (HP2.out.set5 _ _ _ _ _ _ (by omega)).mono (fun k h _ => by omega)
    · rw [HF.out]; exact hge
  have hi := PS.isAt_lt HLa.out hat hlt
  have hrn := PS.rem_next hi
  have hnx := PS.next_ge hlt
  have hrm : (s.next ws).rem ws < m := by
    have := PS.rem_le (ws := ws) (st := st) (st' := s) hge
    omega
  go_wp2_with fail
  refine (at_two P ws s _ (by exact HO.out.prs) b t u (by exact (HO.out.but.cell hbb hbp 0).trans HC0.out) (by exact (HO.out.but.cell hbb hbp 1).trans HC1.out) (by omega)).mono ?_
  rintro e w2 ⟨rfl,hb⟩
  rw [hat]
  have HO2 := hide (HO.out.below hb)
  have HLb2 := hide ((hb.block _ hls).trans HLb.out)
  have HRb2 := hide ((hb.block _ (lt_of_some HRb.out)).trans HRb.out)
  have HP2 := hide (HP.out.keep (S' := fun k => w.heap.size + 1 ≤ k ∧ k ≠ w1.heap.size) (fun k h1 h2 => ⟨h1,hb.block k h2⟩))
  clear hb
  have l0 := cell_block HLb2.out 0
  have l1 := cell_block HLb2.out 1
  have l2 := cell_block HLb2.out 2
  have l3 := cell_block HLb2.out 3
  have l4 := cell_block HLb2.out 4
  have lf := free_block HLb2.out
  have ls := lt_of_some HLb2.out
  simp at l0 l1 l2 l3 l4
  go_wp2_with fail
  refine (pair_factor P ws m R HR.out s _ (by exact HO2.out.prs) hrm l lo ln lc (fun k => w.heap.size + 1 ≤ k ∧ k ≠ w1.heap.size) (by exact HP2.out) (by intro k h; omega)).mono ?_
  rintro e w3 ⟨rv,rfl,hok3,hpa3,hge3⟩
  obtain ⟨ro,rn,rc,rfl⟩ := hpa3.shape
  have HO3 := hide (HO2.out.trans hok3)
  have HLb3 := hide ((hok3.but.block _ ls (by omega)).trans HLb2.out)
  have HRb3 := hide ((hok3.but.block _ (lt_of_some HRb2.out) (by omega)).trans HRb2.out)
  have HP3 := hide (hpa3.mono (S' := fun k => w.heap.size + 1 ≤ k ∧ k ≠ w1.heap.size) (fun k h _ => by rcases h with h | h; exact h.1; omega))
  have HG3 := hide hge3
  clear hok3 hpa3 hge3 l0 l1 l2 l3 l4 lf
  have m0 := cell_block HLb3.out 0
  have m1 := cell_block HLb3.out 1
  have m2 := cell_block HLb3.out 2
  have m3 := cell_block HLb3.out 3
  have m4 := cell_block HLb3.out 4
  have mf := free_block HLb3.out
  have ms := lt_of_some HLb3.out
  simp at m0 m1 m2 m3 m4
  unfold exVal
  generalize hx : pairR ws R l s = x at *
  have HX := hide hx
  clear hx
  go_wp2
  go_roundg (gk - 1)
  case measure => omega
  case rel =>
    refine ⟨x.1,x.2,ro,rn,rc,?_,?_,?_,?_,?_,?_,?_⟩
    · show chainR ws R [t,u] st = _
      rw [HC.out]
      cases gk with
      | zero => omega
      | succ n => simp [chainN,hat,HX.out]
    · have := PS.rem_le (ws := ws) HG3.out; omega
    · exact HO3.out.set5 _ (by omega) _ _ _ _ _
    · exact block_set5 HLb3.out _ _ _ _ _
    · exact block_set5_other (by omega) HRb3.out _ _ _ _ _
    · exact HP3.out.set5 _ _ _ _ _ _ (by omega)
    · exact Nat.le_trans hge (Nat.le_trans hnx HG3.out)
theorem chain_term (P : Pl) (ws : List Wd) (m : Nat) (R : PS → Ex × PS) (hR : Reads 284 ws P m R) (st : PS) (w : World) (hp : Prs P ws st w) (hm : st.rem ws < m)
    (hlast : ∀ s : PS,s.i + 1 = ws.length → (s.cur ws).kind = 0) (b : Nat) (t u : List UInt8) (hb0 : w.cell? ⟨b,0,none⟩ = some (.string ⟨t.toArray⟩)) (hb1 : w.cell? ⟨b,1,none⟩ = some (.string ⟨u.toArray⟩)) (hbb : b < w.heap.size) (hbp : b ≠ P.pb) :
    Calls Tryz.prog 283 #[.pointer (some ⟨P.pb,0,none⟩),.func (.func 284) #[.pointer (some ⟨P.pb,0,none⟩)] #[],.slice (some ⟨b,0,none⟩) 2 2] w (Gave P ws w st (chainR ws R [t,u] st)) := by
  have h1 := lt_of_some hp.blk
  have HQ := hide (Ok.refl hp)
  have HR := hide hR
  have HLa := hide hlast
  have HC0 := hide hb0
  have HC1 := hide hb1
  clear hp hR hlast hb0 hb1
  go_enter Tryz.func283,Tryz.ntmps283
  go_wp2_with fail
  refine (HR.out st _ (by exact (HQ.out.alloc _).prs) hm).mono ?_
  rintro e w1 ⟨qv,rfl,hok,hpa,hge⟩
  obtain ⟨qo,qn,qc,rfl⟩ := hpa.shape
  have HO1 := hide ((HQ.out.alloc _).trans hok)
  have hs1 := hok.size
  simp at hs1
  have HZ := hide ((hok.but.block w.heap.size (by simp) (by omega)).trans (block_new w _))
  have HPA := hide hpa
  have HGE := hide hge
  clear hok hpa hge
  unfold exVal
  go_wp2
  go_loopg [10] ws.length (fun n _ wr => ∃ (l : Ex) (s : PS) (lo : Option Addr) (ln lc : Nat),Hid (chainR ws R [t,u] st = chainN ws R [t,u] n l s) ∧ s.rem ws < n ∧ Hid (Ok P ws w s wr) ∧
      Hid (wr.heap[w1.heap.size]? = some (.cells #[.int .i64 l.kind,.int .i64 l.place,.string ⟨l.name.toArray⟩,.int .i64 l.value,.slice lo ln lc] 231 (0,0))) ∧
      Hid (wr.heap[w.heap.size]? = some (.cells #[.int .i64 0,.int .i64 0,.string ⟨#[]⟩,.int .i64 0,.slice none 0 0] 231 (0,0))) ∧
      Hid (Parts (fun k => w.heap.size + 1 ≤ k ∧ k ≠ w1.heap.size) wr (.slice lo ln lc) l.parts) ∧ st.i ≤ s.i)
  case atStart =>
    refine ⟨(R st).1,(R st).2,qo,qn,qc,rfl,?_,HO1.out.alloc _,block_new _ _,block_alloc HZ.out _,?_,HGE.out⟩
    · have := HO1.out.prs.lt; simp only [PS.rem]; omega
    · exact (HPA.out.bound.alloc _).mono (fun k h _ => ⟨by have := h.1; simp at this; omega,by have := h.2; omega⟩)
  obtain ⟨l,s,lo,ln,lc,HC,hrem,HO,HLb,HRb,HP,hge⟩ := hrel
  have hlt := HO.out.prs.lt
  have hsr := HO.out.size
  have hls := lt_of_some HLb.out
  rcases hat : s.isAt ws [t,u] with _ | _
  · have HF := hide (show chainR ws R [t,u] st = (l,s) by
      rw [HC.out]
      cases gk with
      | zero => omega
      | succ n => simp [chainN,hat])
    go_wp2_with fail
    refine (at_two P ws s _ (by exact HO.out.prs) b t u (by exact (HO.out.but.cell hbb hbp 0).trans HC0.out) (by exact (HO.out.but.cell hbb hbp 1).trans HC1.out) (by omega)).mono ?_
    rintro e w2 ⟨rfl,hb⟩
    rw [hat]
    have HO2 := hide (HO.out.below hb)
    have HLb2 := hide ((hb.block _ hls).trans HLb.out)
    have HRb2 := hide ((hb.block _ (lt_of_some HRb.out)).trans HRb.out)
    have HP2 := hide (HP.out.keep (S' := fun k => w.heap.size + 1 ≤ k ∧ k ≠ w1.heap.size) (fun k h1 h2 => ⟨h1,hb.block k h2⟩))
    clear hb
    have l0 := cell_block HLb2.out 0
    have l1 := cell_block HLb2.out 1
    have l2 := cell_block HLb2.out 2
    have l3 := cell_block HLb2.out 3
    have l4 := cell_block HLb2.out 4
    have lf := free_block HLb2.out
    have ls := lt_of_some HLb2.out
    simp at l0 l1 l2 l3 l4
    have z0 := cell_block HRb2.out 0
    have z1 := cell_block HRb2.out 1
    have z2 := cell_block HRb2.out 2
    have z3 := cell_block HRb2.out 3
    have z4 := cell_block HRb2.out 4
    have zf := free_block HRb2.out
    have zs := lt_of_some HRb2.out
    simp at z0 z1 z2 z3 z4
    go_wp2
    refine bodyPost_ret (v := exVal l (.slice lo ln lc)) (by simp [results,Tryz.results283,go_sem,z0,z1,z2,z3,z4,zs,exVal]) rfl ?_
    refine ⟨.slice lo ln lc,by rw [HF.out],?_,?_,?_⟩
    · rw [HF.out]; exact HO2.out.set5 _ (Nat.le_refl _) _ _ _ _ _
    · rw [HF.out]; exact (HP2.out.set5 _ _ _ _ _ _ (by omega)).mono (fun k h _ => by omega)
    · rw [HF.out]; exact hge
  have hi := PS.isAt_lt HLa.out hat hlt
  have hrn := PS.rem_next hi
  have hnx := PS.next_ge hlt
  have hrm : (s.next ws).rem ws < m := by
    have := PS.rem_le (ws := ws) (st := st) (st' := s) hge
    omega
  go_wp2_with fail
  refine (at_two P ws s _ (by exact HO.out.prs) b t u (by exact (HO.out.but.cell hbb hbp 0).trans HC0.out) (by exact (HO.out.but.cell hbb hbp 1).trans HC1.out) (by omega)).mono ?_
  rintro e w2 ⟨rfl,hb⟩
  rw [hat]
  have HO2 := hide (HO.out.below hb)
  have HLb2 := hide ((hb.block _ hls).trans HLb.out)
  have HRb2 := hide ((hb.block _ (lt_of_some HRb.out)).trans HRb.out)
  have HP2 := hide (HP.out.keep (S' := fun k => w.heap.size + 1 ≤ k ∧ k ≠ w1.heap.size) (fun k h1 h2 => ⟨h1,hb.block k h2⟩))
  clear hb
  have l0 := cell_block HLb2.out 0
  have l1 := cell_block HLb2.out 1
  have l2 := cell_block HLb2.out 2
  have l3 := cell_block HLb2.out 3
  have l4 := cell_block HLb2.out 4
  have lf := free_block HLb2.out
  have ls := lt_of_some HLb2.out
  simp at l0 l1 l2 l3 l4
  go_wp2_with fail
  refine (pair_term P ws m R HR.out s _ (by exact HO2.out.prs) hrm l lo ln lc (fun k => w.heap.size + 1 ≤ k ∧ k ≠ w1.heap.size) (by exact HP2.out) (by intro k h; omega)).mono ?_
  rintro e w3 ⟨rv,rfl,hok3,hpa3,hge3⟩
  obtain ⟨ro,rn,rc,rfl⟩ := hpa3.shape
  have HO3 := hide (HO2.out.trans hok3)
  have HLb3 := hide ((hok3.but.block _ ls (by omega)).trans HLb2.out)
  have HRb3 := hide ((hok3.but.block _ (lt_of_some HRb2.out) (by omega)).trans HRb2.out)
  have HP3 := hide (hpa3.mono (S' := fun k => w.heap.size + 1 ≤ k ∧ k ≠ w1.heap.size) (fun k h _ => by rcases h with h | h; exact h.1; omega))
  have HG3 := hide hge3
  clear hok3 hpa3 hge3 l0 l1 l2 l3 l4 lf
  have m0 := cell_block HLb3.out 0
  have m1 := cell_block HLb3.out 1
  have m2 := cell_block HLb3.out 2
  have m3 := cell_block HLb3.out 3
  have m4 := cell_block HLb3.out 4
  have mf := free_block HLb3.out
  have ms := lt_of_some HLb3.out
  simp at m0 m1 m2 m3 m4
  unfold exVal
  generalize hx : pairR ws R l s = x at *
  have HX := hide hx
  clear hx
  go_wp2
  go_roundg (gk - 1)
  case measure => omega
  case rel =>
    refine ⟨x.1,x.2,ro,rn,rc,?_,?_,?_,?_,?_,?_,?_⟩
    · show chainR ws R [t,u] st = _
      rw [HC.out]
      cases gk with
      | zero => omega
      | succ n => simp [chainN,hat,HX.out]
    · have := PS.rem_le (ws := ws) HG3.out; omega
    · exact HO3.out.set5 _ (by omega) _ _ _ _ _
    · exact block_set5 HLb3.out _ _ _ _ _
    · exact block_set5_other (by omega) HRb3.out _ _ _ _ _
    · exact HP3.out.set5 _ _ _ _ _ _ (by omega)
    · exact Nat.le_trans hge (Nat.le_trans hnx HG3.out)
theorem Gave.fin {P : Pl} {ws : List Wd} {w w1 w2 : World} {st : PS} {r : Ex × PS} {po : Option Addr} {pn pc : Nat} (h0 : P.pb < w.heap.size) (h : Ok P ws w r.2 w2) (hp : Parts (fun k => w1.heap.size ≤ k) w2 (.slice po pn pc) r.1.parts) (h1 : w.heap.size + 1 ≤ w1.heap.size) (hg : st.i ≤ r.2.i) :
    Gave P ws w st r (.returned (exVal r.1 (.slice po pn pc))) (((((w2.setCell ⟨w.heap.size,0,none⟩ (.int .i64 r.1.kind)).setCell ⟨w.heap.size,1,none⟩ (.int .i64 r.1.place)).setCell ⟨w.heap.size,2,none⟩ (.string ⟨r.1.name.toArray⟩)).setCell ⟨w.heap.size,3,none⟩ (.int .i64 r.1.value)).setCell ⟨w.heap.size,4,none⟩ (.slice po pn pc)) :=
  ⟨_,rfl,h.set5 _ (Nat.le_refl _) _ _ _ _ _,(hp.set5 _ _ _ _ _ _ (by omega)).mono (fun k h _ => by omega),hg⟩
theorem term_any (P : Pl) (ws : List Wd) (m : Nat) (R : PS → Ex × PS) (hR : Reads 288 ws P m R) (hlast : ∀ s : PS,s.i + 1 = ws.length → (s.cur ws).kind = 0) :
    Reads 284 ws P m (chainR ws R [[42],[47]]) := by
  intro st w hp hm
  have h1 := lt_of_some hp.blk
  have HQ := hide (Ok.refl hp)
  have HR := hide hR
  have HLa := hide hlast
  clear hp hR hlast
  go_enter Tryz.func284,Tryz.ntmps284
  go_wp2_with fail
  refine (chain_factor P ws m R HR.out st _ (by exact ((HQ.out.alloc _).alloc _).prs) hm HLa.out (w.heap.size + 1) [42] [47] (by simp) (by simp) (by simp) (by omega)).mono ?_
  rintro e w2 ⟨qv,rfl,hok,hpa,hge⟩
  obtain ⟨qo,qn,qc,rfl⟩ := hpa.shape
  have HO2 := hide (((HQ.out.alloc _).alloc _).trans hok)
  have HZ := hide ((hok.but.block w.heap.size (by simp; omega) (by omega)).trans (block_alloc (block_new w _) _))
  have HPA := hide hpa
  have HGE := hide hge
  clear hok hpa hge
  have z0 := cell_block HZ.out 0
  have z1 := cell_block HZ.out 1
  have z2 := cell_block HZ.out 2
  have z3 := cell_block HZ.out 3
  have z4 := cell_block HZ.out 4
  have zf := free_block HZ.out
  have zs := lt_of_some HZ.out
  simp at z0 z1 z2 z3 z4
  unfold exVal
  generalize hr : chainR ws R [[42],[47]] st = r at *
  have HX := hide hr
  clear hr
  go_wp2
  exact bodyPost_ret (v := exVal r.1 (.slice qo qn qc)) (by simp [results,Tryz.results284,go_sem,z0,z1,z2,z3,z4,zs,exVal]) rfl (Gave.fin h1 HO2.out HPA.out (by simp) HGE.out)
theorem sum_any (P : Pl) (ws : List Wd) (m : Nat) (R : PS → Ex × PS) (hR : Reads 284 ws P m R) (hlast : ∀ s : PS,s.i + 1 = ws.length → (s.cur ws).kind = 0) :
    Reads 277 ws P m (chainR ws R [[43],[45]]) := by
  intro st w hp hm
  have h1 := lt_of_some hp.blk
  have HQ := hide (Ok.refl hp)
  have HR := hide hR
  have HLa := hide hlast
  clear hp hR hlast
  go_enter Tryz.func277,Tryz.ntmps277
  go_wp2_with fail
  refine (chain_term P ws m R HR.out st _ (by exact ((HQ.out.alloc _).alloc _).prs) hm HLa.out (w.heap.size + 1) [43] [45] (by simp) (by simp) (by simp) (by omega)).mono ?_
  rintro e w2 ⟨qv,rfl,hok,hpa,hge⟩
  obtain ⟨qo,qn,qc,rfl⟩ := hpa.shape
  have HO2 := hide (((HQ.out.alloc _).alloc _).trans hok)
  have HZ := hide ((hok.but.block w.heap.size (by simp; omega) (by omega)).trans (block_alloc (block_new w _) _))
  have HPA := hide hpa
  have HGE := hide hge
  clear hok hpa hge
  have z0 := cell_block HZ.out 0
  have z1 := cell_block HZ.out 1
  have z2 := cell_block HZ.out 2
  have z3 := cell_block HZ.out 3
  have z4 := cell_block HZ.out 4
  have zf := free_block HZ.out
  have zs := lt_of_some HZ.out
  simp at z0 z1 z2 z3 z4
  unfold exVal
  generalize hr : chainR ws R [[43],[45]] st = r at *
  have HX := hide hr
  clear hr
  go_wp2
  exact bodyPost_ret (v := exVal r.1 (.slice qo qn qc)) (by simp [results,Tryz.results277,go_sem,z0,z1,z2,z3,z4,zs,exVal]) rfl (Gave.fin h1 HO2.out HPA.out (by simp) HGE.out)
end Go.Proofs.YtpmmjkiclngpmaaGreatDoor
namespace Go.Proofs.YtpmmjkiclngpmaaGreatDoor
open Go.RowKit
theorem owns_base {w : World} {base base' : Nat} {e : TypeId} {size : Nat} {v : Value} {n : Nat} {xs : List Value} (h : w.ownsRow base e size v n xs) (hb : base' ≤ base) : w.ownsRow base' e size v n xs := by
  refine ⟨h.1,?_⟩
  rcases h.2 with h | ⟨g,cap,cur,a,b,c⟩
  · exact Or.inl h
  exact Or.inr ⟨g,cap,cur,a,Nat.le_trans hb b,c⟩
theorem grown_weak {w w' : World} (h : w.grownBy w' none) (r : Option Nat) : w.grownBy w' r := ⟨h.os,h.tape,h.output,h.size,fun k hk hne => h.block k hk (by simp)⟩
theorem wpList_append_told {P : Program} (w : World) {ops : Array Oper} {rest : List Oper} {o : Oper} {a : Act} {Q : Exit → Act → World → Prop}
    (hg : o.guard = none) (s x : Operand) (t : TypeId) (hop : o.op = Op.call { callee := Callee.builtin Builtin.append,args := #[s,x],argTypes := #[t,t] })
    (base : Nat) (e : TypeId) (i : TypeInfo) (z : Value) (size bytes : Nat) (h1 : P.underlying t = some (.slice e)) (h2 : P.info? e = some i) (h3 : i.zero = some z) (h4 : i.size = size) (h5 : i.bytes = bytes) (h6 : z.cells.size = size) (h7 : 0 < size)
    (g n cap : Nat) (xs : List Value) (hs : a.eval s = .slice (some ⟨g,0,none⟩) n cap) (hown : w.ownsRow base e size (.slice (some ⟨g,0,none⟩) n cap) n xs)
    (ad : Addr) (m c : Nat) (news : List Value) (hx : a.eval x = .slice (some ad) m c) (hn : news.length = m * size) (hc : ∀ j u,news[j]? = some u → w.cell? (ad.add j) = some u) (h1c : ∀ u ∈ news,u.oneCell' = true)
    (b1 : n + m ≤ maxLen) (b2 : (n + m) * bytes ≤ 140737488355328) (hbase : base ≤ w.heap.size)
    (hK : ∀ g' cap' w',w'.ownsRow base e size (.slice (some ⟨g',0,none⟩) (n + m) cap') (n + m) (xs ++ news) → w.grownBy w' (some g) → (g' = g ∨ w.heap.size ≤ g') → wpList P ops Q rest (a.put o.dst (.slice (some ⟨g',0,none⟩) (n + m) cap')) w') :
    wpList P ops Q (o :: rest) a w := by
  by_cases hroom : n + m ≤ cap
  · exact wpList_append_fits w hg s x t hop base e i size h1 h2 h4 g n cap xs hs hown ad m c news hx hn hc h1c hroom fun w' r1 r2 => hK g cap w' r1 r2 (Or.inl rfl)
  rcases hown.2 with ⟨h,_⟩ | ⟨g0,cap0,cur,hv,hb0,hblk,hnc,hcm,hcs,htk⟩
  · simp at h
  simp only [Value.slice.injEq,Option.some.injEq,Addr.mk.injEq] at hv
  obtain ⟨⟨rfl,_⟩,_,rfl⟩ := hv
  refine wpList_append_grows w hg s x t hop e i z size bytes h1 h2 h3 h4 h5 h6 h7 (some ⟨g,0,none⟩) n cap xs hs (fun h => by cases h) hown.1 ?_ ad m c news hx hn hc h1c (by omega) b1 b2 ?_
  · intro b hb j u hj
    simp only [Option.some.injEq] at hb
    subst hb
    have hj' : j < n * size := by rw [← hown.1]; exact (List.getElem?_eq_some_iff.1 hj).1
    have e1 : (Addr.add ⟨g,0,none⟩ j) = ⟨g,j,none⟩ := by unfold Addr.add; split <;> simp_all
    rw [e1,cell_block hblk,← hj,← htk,List.getElem?_take,if_pos hj']
    simp
  intro v' w' r1 r2
  rcases r1.2 with ⟨hv',h0⟩ | ⟨g',cap',cur',hv',hb',rest'⟩
  · have : (xs ++ news).length = 0 := by rw [r1.1,h0]; simp
    have hlen : 0 < n + m := by omega
    omega
  subst hv'
  exact hK g' cap' w' (owns_base r1 hbase) (grown_weak r2 _) (Or.inr hb')
theorem info_expr : (Tryz.prog.info? 231).map (fun i => (i.zero,i.size,i.bytes)) = some (some (.agg #[.int .i64 0,.int .i64 0,.string ⟨#[]⟩,.int .i64 0,.slice none 0 0]),5,64) := by kernel_rfl
def Cells5 (S : Nat → Prop) (w : World) (xs : List Value) (es : List Ex) : Prop :=
  ∀ j,(h : j < es.length) → ∃ pj,(xs.drop (j * 5)).take 5 = exCells es[j] pj ∧ Parts S w pj es[j].parts
theorem Cells5.keep {S S' : Nat → Prop} {w w' : World} {xs : List Value} {es : List Ex} (h : Cells5 S w xs es) (hk : ∀ k,S k → k < w.heap.size → S' k ∧ w'.heap[k]? = w.heap[k]?) : Cells5 S' w' xs es :=
  fun j hj => by obtain ⟨pj,a,b⟩ := h j hj; exact ⟨pj,a,b.keep hk⟩
theorem Cells5.snoc {S : Nat → Prop} {w : World} {xs : List Value} {es : List Ex} (h : Cells5 S w xs es) (hl : xs.length = es.length * 5) {x : Ex} {pv : Value} (hx : Parts S w pv x.parts) :
    Cells5 S w (xs ++ exCells x pv) (es ++ [x]) := by
  intro j hj
  by_cases e : j < es.length
  · obtain ⟨pj,a,b⟩ := h j e
    refine ⟨pj,?_,?_⟩
    · rw [List.drop_append_of_le_length (by omega),List.take_append_of_le_length (by simp; omega),a,List.getElem_append_left e]
    · rw [List.getElem_append_left e]; exact b
  have e' : j = es.length := by simp at hj; omega
  subst e'
  refine ⟨pv,?_,?_⟩
  · rw [← hl,List.drop_left]
    simp [exCells]
  simpa using hx
theorem Parts.own {S : Nat → Prop} {w : World} {base g cap : Nat} {xs : List Value} {es : List Ex} (ho : w.ownsRow base 231 5 (.slice (some ⟨g,0,none⟩) es.length cap) es.length xs) (hS : S g) (h : Cells5 S w xs es) :
    Parts S w (.slice (some ⟨g,0,none⟩) es.length cap) es := by
  rcases ho.2 with ⟨h,_⟩ | ⟨g0,cap0,cur,hv,hb0,hblk,hnc,hcm,hcs,htk⟩
  · simp at h
  simp only [Value.slice.injEq,Option.some.injEq,Addr.mk.injEq] at hv
  obtain ⟨⟨rfl,_⟩,_,rfl⟩ := hv
  refine Parts.row hS hnc hblk fun j hj => ?_
  obtain ⟨pj,a,b⟩ := h j hj
  refine ⟨pj,?_,b⟩
  rw [← a,← htk,List.drop_take,List.take_take]
  congr 1
  omega
end Go.Proofs.YtpmmjkiclngpmaaGreatDoor
namespace Go.Proofs.YtpmmjkiclngpmaaGreatDoor
open Go.RowKit
theorem owns_keep {w w' : World} {base : Nat} {e : TypeId} {size : Nat} {v : Value} {n : Nat} {xs : List Value} (h : w.ownsRow base e size v n xs) (hk : ∀ g,v.ownBlock = some g → w'.heap[g]? = w.heap[g]?) : w'.ownsRow base e size v n xs := by
  refine ⟨h.1,?_⟩
  rcases h.2 with h | ⟨g,cap,cur,a,b,c,d⟩
  · exact Or.inl h
  exact Or.inr ⟨g,cap,cur,a,b,(hk g (by rw [a]; rfl)).trans c,d⟩
theorem owns_lt {w : World} {base : Nat} {e : TypeId} {size n cap g : Nat} {xs : List Value} (h : w.ownsRow base e size (.slice (some ⟨g,0,none⟩) n cap) n xs) : base ≤ g ∧ g < w.heap.size := by
  rcases h.2 with ⟨h,_⟩ | ⟨g0,cap0,cur,hv,hb,c,d⟩
  · simp at h
  simp only [Value.slice.injEq,Option.some.injEq,Addr.mk.injEq] at hv
  obtain ⟨⟨rfl,_⟩,_,rfl⟩ := hv
  exact ⟨hb,lt_of_some c⟩
theorem Ok.grown {P : Pl} {ws : List Wd} {st : PS} {w0 w w' : World} {g : Nat} (h : Ok P ws w0 st w) (hg : w.grownBy w' (some g)) (hb : w0.heap.size ≤ g) : Ok P ws w0 st w' := by
  have hp : ∀ k,k < w0.heap.size → w'.heap[k]? = w.heap[k]? := fun k hk => hg.block k (Nat.lt_of_lt_of_le hk h.size) (by intro e; simp at e; omega)
  refine ⟨h.p1,h.p2,⟨hg.os.trans h.but.os,hg.tape.trans h.but.tape,hg.output.trans h.but.output,Nat.le_trans h.size hg.size,fun k hk hne => (hp k hk).trans (h.but.block k hk hne)⟩,?_⟩
  exact ⟨(hp _ h.p1).trans h.prs.blk,(hp _ h.p2).trans h.prs.row,h.prs.cells,h.prs.ne,h.prs.lt,h.prs.small,h.prs.fits⟩
def GaveL (P : Pl) (ws : List Wd) (w : World) (st : PS) (r : List Ex × PS) (e : Ending) (w' : World) : Prop :=
  ∃ po pn pc,e = .returned (.slice po pn pc) ∧ Ok P ws w r.2 w' ∧ Parts (fun k => w.heap.size ≤ k) w' (.slice po pn pc) r.1 ∧ st.i ≤ r.2.i
theorem args_any (P : Pl) (ws : List Wd) (m : Nat) (R : PS → Ex × PS) (hR : Reads 208 ws P m R) (hlast : ∀ s : PS,s.i + 1 = ws.length → (s.cur ws).kind = 0)
    (st : PS) (w : World) (hp : Prs P ws st w) (hm : (st.expect ws [40]).rem ws < m) :
    Calls Tryz.prog 295 #[.pointer (some ⟨P.pb,0,none⟩),.func (.func 208) #[.pointer (some ⟨P.pb,0,none⟩)] #[]] w (GaveL P ws w st (argsR ws R st)) := by
  have h1 := lt_of_some hp.blk
  have hg0 := PS.expect_ge (ws := ws) [40] hp.lt
  have hsm := hp.small
  have HQ := hide (Ok.refl hp)
  have HR := hide hR
  have HLa := hide hlast
  clear hp hR hlast
  rcases hc : (st.expect ws [40]).isAt ws [[41]] with _ | _
  rotate_left
  · have HF := hide (show argsR ws R st = ([],(st.expect ws [40]).next ws) by simp [argsR,hc])
    have HS := hide (show (st.expect ws [40]).skipTo ws [41] = (st.expect ws [40]).next ws by simp [PS.skipTo,hc])
    go_enter Tryz.func295,Tryz.ntmps295
    go_wp2_with fail
    refine (expect_any P ws st _ (by exact HQ.out.prs) [40]).mono ?_
    rintro e w1 ⟨rfl,hb⟩
    have HO1 := hide (HQ.out.go hb)
    have hl1 := hb.2.lt
    clear hb
    go_wp2_with fail
    refine (skip_any P ws (st.expect ws [40]) _ (by exact HO1.out.prs) [41]).mono ?_
    rintro e w2 ⟨rfl,hb⟩
    rw [HS.out] at hb
    have HO2 := hide (HO1.out.go hb)
    have hn := PS.next_ge (ws := ws) hl1
    clear hb
    rw [hc]
    go_wp2
    go_ret
    rw [HF.out]
    exact ⟨none,0,0,rfl,HO2.out,Parts.nil _ _,Nat.le_trans hg0 hn⟩
  have HF := hide (show argsR ws R st = ((R (st.expect ws [40])).1 :: (argsN ws R ws.length (R (st.expect ws [40])).2).1,(argsN ws R ws.length (R (st.expect ws [40])).2).2.expect ws [41]) by simp [argsR,hc])
  have HS := hide (show (st.expect ws [40]).skipTo ws [41] = st.expect ws [40] by simp [PS.skipTo,hc])
  obtain ⟨i0,hi,hz0,hz1,hz2⟩ := info_parts info_expr
  go_enter Tryz.func295,Tryz.ntmps295
  go_wp2_with fail
  refine (expect_any P ws st _ (by exact HQ.out.prs) [40]).mono ?_
  rintro e w1 ⟨rfl,hb⟩
  have HO1 := hide (HQ.out.go hb)
  clear hb
  go_wp2_with fail
  refine (skip_any P ws (st.expect ws [40]) _ (by exact HO1.out.prs) [41]).mono ?_
  rintro e w2 ⟨rfl,hb⟩
  rw [HS.out] at hb
  have HO2 := hide (HO1.out.go hb)
  have hs2 := HO2.out.size
  clear hb
  rw [hc]
  go_wp2_with fail
  refine (HR.out (st.expect ws [40]) _ (by exact HO2.out.prs) hm).mono ?_
  rintro e w3 ⟨qv,rfl,hok,hpa,hge⟩
  obtain ⟨qo,qn,qc,rfl⟩ := hpa.shape
  have HO3 := hide (HO2.out.trans hok)
  have HP3 := hide hpa
  have hs3 := hok.size
  have hl3 := hok.prs.lt
  generalize hr : R (st.expect ws [40]) = r at *
  have HE := hide hr
  clear hok hpa hr
  unfold exVal
  go_wp2
  go_loopg [5] ws.length (fun n v wr => ∃ (tl : List Ex) (s : PS) (g cap : Nat) (xs : List Value),v = .slice (some ⟨g,0,none⟩) (tl.length + 1) cap ∧ Hid (argsN ws R ws.length r.2 = (tl ++ (argsN ws R n s).1,(argsN ws R n s).2)) ∧ s.rem ws < n ∧ tl.length + n ≤ ws.length ∧ Hid (Ok P ws w s wr) ∧
      Hid (wr.ownsRow w.heap.size 231 5 (.slice (some ⟨g,0,none⟩) (tl.length + 1) cap) (tl.length + 1) xs) ∧ Hid (Cells5 (fun k => w.heap.size ≤ k ∧ k ≠ g) wr xs (r.1 :: tl)) ∧ r.2.i ≤ s.i)
  case atStart =>
    refine ⟨[],r.2,w3.heap.size,1,exCells r.1 (.slice qo qn qc),rfl,rfl,?_,by simp,HO3.out.alloc _,?_,?_,Nat.le_refl _⟩
    · simp only [PS.rem]; omega
    · exact ⟨rfl,Or.inr ⟨w3.heap.size,1,_,rfl,by omega,block_new _ _,Nat.le_refl _,by unfold maxLen; omega,rfl,rfl⟩⟩
    · intro j hj
      match j,hj with
      | 0,_ => exact ⟨.slice qo qn qc,rfl,(HP3.out.bound.alloc _).mono (fun k h _ => ⟨by have := h.1; omega,by have := h.2; omega⟩)⟩
  obtain ⟨tl,s,g,cap,xs,rfl,HC,hrem,hsum,HO,HOw,HCe,hge'⟩ := hrel
  have hlt := HO.out.prs.lt
  have hgl := owns_lt HOw.out
  rcases hat : s.isAt ws [[44]] with _ | _
  · have HF2 := hide (show argsN ws R ws.length r.2 = (tl,s) by
      rw [HC.out]
      cases gk with
      | zero => omega
      | succ n => simp [argsN,hat])
    have HS2 := hide (show s.skipTo ws [44] = s by simp [PS.skipTo,hat])
    go_wp2_with fail
    refine (skip_any P ws s _ (by exact HO.out.prs) [44]).mono ?_
    rintro e w4 ⟨rfl,hb⟩
    rw [HS2.out] at hb
    have HO4 := hide (HO.out.go hb)
    have HOw4 := hide (owns_keep HOw.out (w' := w4) (fun k e => hb.1.block k (by simp [Value.ownBlock] at e; omega) (by simp [Value.ownBlock] at e; omega)))
    have HCe4 := hide (HCe.out.keep (S' := fun k => w.heap.size ≤ k ∧ k ≠ g) (fun k h1 h2 => ⟨h1,hb.1.block k h2 (by omega)⟩))
    clear hb
    rw [hat]
    go_wp2_with fail
    refine (expect_any P ws s _ (by exact HO4.out.prs) [41]).mono ?_
    rintro e w5 ⟨rfl,hb⟩
    have HO5 := hide (HO4.out.go hb)
    have hgl4 := owns_lt HOw4.out
    have HOw5 := hide (owns_keep HOw4.out (w' := w5) (fun k e => hb.1.block k (by simp [Value.ownBlock] at e; omega) (by simp [Value.ownBlock] at e; omega)))
    have HCe5 := hide (HCe4.out.keep (S' := fun k => w.heap.size ≤ k) (fun k h1 h2 => ⟨h1.1,hb.1.block k h2 (by omega)⟩))
    have hg5 := PS.expect_ge (ws := ws) [41] hlt
    clear hb
    go_wp2
    go_ret
    rw [HF.out,HF2.out]
    exact ⟨_,_,_,rfl,HO5.out,Parts.own (es := r.1 :: tl) HOw5.out hgl.1 HCe5.out,Nat.le_trans hg0 (Nat.le_trans hge (Nat.le_trans hge' hg5))⟩
  have hi2 := PS.isAt_lt HLa.out hat hlt
  have hrn := PS.rem_next hi2
  have hnx := PS.next_ge hlt
  have HS2 := hide (show s.skipTo ws [44] = s.next ws by simp [PS.skipTo,hat])
  go_wp2_with fail
  refine (skip_any P ws s _ (by exact HO.out.prs) [44]).mono ?_
  rintro e w4 ⟨rfl,hb⟩
  rw [HS2.out] at hb
  have HO4 := hide (HO.out.go hb)
  have HOw4 := hide (owns_keep HOw.out (w' := w4) (fun k e => hb.1.block k (by simp [Value.ownBlock] at e; omega) (by simp [Value.ownBlock] at e; omega)))
  have HCe4 := hide (HCe.out.keep (S' := fun k => w.heap.size ≤ k ∧ k ≠ g) (fun k h1 h2 => ⟨h1,hb.1.block k h2 (by omega)⟩))
  have hgl4 := owns_lt HOw4.out
  clear hb
  rw [hat]
  go_wp2_with fail
  refine (HR.out (s.next ws) _ (by exact HO4.out.prs) (by have := PS.rem_le (ws := ws) (Nat.le_trans hge (Nat.le_trans hge' hnx)); omega)).mono ?_
  rintro e w5 ⟨qv5,rfl,hok5,hpa5,hge5⟩
  obtain ⟨qo5,qn5,qc5,rfl⟩ := hpa5.shape
  have HO5 := hide (HO4.out.trans hok5)
  have HOw5 := hide (owns_keep HOw4.out (w' := w5) (fun k e => hok5.but.block k (by simp [Value.ownBlock] at e; omega) (by simp [Value.ownBlock] at e; omega)))
  have HCe5 := hide (HCe4.out.keep (S' := fun k => w.heap.size ≤ k ∧ k ≠ g) (fun k h1 h2 => ⟨h1,hok5.but.block k h2 (by omega)⟩))
  have HP5 := hide (hpa5.mono (S' := fun k => w.heap.size ≤ k ∧ k ≠ g) (fun k h _ => by have := HO4.out.size; omega))
  have HG5 := hide hge5
  have hgl5 := owns_lt HOw5.out
  have hs5 := HO5.out.size
  generalize hr5 : R (s.next ws) = r5 at *
  have HE5 := hide hr5
  clear hok5 hpa5 hge5 hr5
  unfold exVal
  go_wp2_with (at_builtin; refine wpList_append_told _ rfl _ _ 229 rfl w.heap.size 231 i0 (.agg #[.int .i64 0,.int .i64 0,.string ⟨#[]⟩,.int .i64 0,.slice none 0 0]) 5 64 Tryz.underlying229 hi hz0 hz1 hz2 rfl (by decide) g (tl.length + 1) cap xs rfl (HOw5.out.alloc _) ⟨w5.heap.size,0,none⟩ 1 1 (exCells r5.1 (.slice qo5 qn5 qc5)) rfl rfl ?c1 ?c2 ?c3 ?c4 ?c5 ?_)
  case c1 =>
    intro j u hj
    match j,hj with
    | 0,hj => simp [exCells] at hj; subst hj; simp [Addr.add]
    | 1,hj => simp [exCells] at hj; subst hj; simp [Addr.add]
    | 2,hj => simp [exCells] at hj; subst hj; simp [Addr.add]
    | 3,hj => simp [exCells] at hj; subst hj; simp [Addr.add]
    | 4,hj => simp [exCells] at hj; subst hj; simp [Addr.add]
  case c2 => intro u hu; simp [exCells] at hu; rcases hu with rfl | rfl | rfl | rfl | rfl <;> rfl
  case c3 => unfold maxLen; omega
  case c4 => omega
  case c5 => simp; omega
  intro g' cap' w6 hown' hgrow hwhere
  have HO6 := hide ((HO5.out.alloc _).grown hgrow hgl.1)
  have HCe6 := hide (((HCe5.out.keep (w' := w5.alloc (.cells #[.int .i64 r5.1.kind,.int .i64 r5.1.place,.string ⟨r5.1.name.toArray⟩,.int .i64 r5.1.value,.slice qo5 qn5 qc5] 231)) (S' := fun k => (w.heap.size ≤ k ∧ k ≠ g) ∧ k < w5.heap.size) (fun k h1 h2 => ⟨⟨h1,h2⟩,Below.heap_alloc _ _ _ h2⟩))).keep (w' := w6) (S' := fun k => w.heap.size ≤ k ∧ k ≠ g') (fun k h1 h2 => ⟨⟨h1.1.1,by (try simp at hwhere); omega⟩,hgrow.block k h2 (by simp; omega)⟩))
  have HP6 := hide ((HP5.out.bound.alloc (.cells #[.int .i64 r5.1.kind,.int .i64 r5.1.place,.string ⟨r5.1.name.toArray⟩,.int .i64 r5.1.value,.slice qo5 qn5 qc5] 231)).keep (w' := w6) (S' := fun k => w.heap.size ≤ k ∧ k ≠ g') (fun k h1 h2 => ⟨⟨h1.1.1,by (try simp at hwhere); omega⟩,hgrow.block k h2 (by simp; omega)⟩))
  have HOw6 := hide hown'
  clear hgrow hown' hwhere
  go_wp2
  go_roundg (gk - 1)
  case measure => omega
  case rel =>
    refine ⟨tl ++ [r5.1],r5.2,g',cap',xs ++ exCells r5.1 (.slice qo5 qn5 qc5),by simp,?_,?_,?_,HO6.out,?_,?_,?_⟩
    · show argsN ws R ws.length r.2 = _
      rw [HC.out]
      cases gk with
      | zero => omega
      | succ n => simp [argsN,hat,HE5.out]
    · have := PS.rem_le (ws := ws) HG5.out; omega
    · simp; omega
    · show w6.ownsRow _ _ _ _ _ _
      have := HOw6.out; simpa using this
    · exact Cells5.snoc (es := r.1 :: tl) HCe6.out (by have := HOw5.out.1; simpa using this) HP6.out
    · exact Nat.le_trans hge' (Nat.le_trans hnx HG5.out)
end Go.Proofs.YtpmmjkiclngpmaaGreatDoor
namespace Go.Proofs.YtpmmjkiclngpmaaGreatDoor
open Go.RowKit
theorem Parts.fin3a {S : Nat → Prop} {w : World} {a a' a'' : Ex} {pa pa' pa'' : Value} (hS : S (w.heap.size + 1)) (ha : Parts S w pa a.parts) (ha' : Parts S w pa' a'.parts) (ha'' : Parts S w pa'' a''.parts) (b : Nat) (hb : ¬ S b) (c0 c1 c2 c3 c4 : Value) (o : Obj) :
    Parts S (((((((w.setCell ⟨b,0,none⟩ c0).setCell ⟨b,1,none⟩ c1).setCell ⟨b,2,none⟩ c2).setCell ⟨b,3,none⟩ c3).setCell ⟨b,4,none⟩ c4).alloc o).alloc (.cells #[.int .i64 a.kind,.int .i64 a.place,.string ⟨a.name.toArray⟩,.int .i64 a.value,pa,.int .i64 a'.kind,.int .i64 a'.place,.string ⟨a'.name.toArray⟩,.int .i64 a'.value,pa',.int .i64 a''.kind,.int .i64 a''.place,.string ⟨a''.name.toArray⟩,.int .i64 a''.value,pa''] 231)) (.slice (some ⟨w.heap.size + 1,0,none⟩) 3 3) [a,a',a''] := by
  have hz : ((((((w.setCell ⟨b,0,none⟩ c0).setCell ⟨b,1,none⟩ c1).setCell ⟨b,2,none⟩ c2).setCell ⟨b,3,none⟩ c3).setCell ⟨b,4,none⟩ c4).alloc o).heap.size = w.heap.size + 1 := by simp
  have := Parts.new3 (S := S) (w := (((((w.setCell ⟨b,0,none⟩ c0).setCell ⟨b,1,none⟩ c1).setCell ⟨b,2,none⟩ c2).setCell ⟨b,3,none⟩ c3).setCell ⟨b,4,none⟩ c4).alloc o) (by rw [hz]; exact hS) ((ha.set5 b c0 c1 c2 c3 c4 hb).alloc o) ((ha'.set5 b c0 c1 c2 c3 c4 hb).alloc o) ((ha''.set5 b c0 c1 c2 c3 c4 hb).alloc o)
  rw [hz] at this
  exact this
theorem Parts.fin2a {S : Nat → Prop} {w : World} {a a' : Ex} {pa pa' : Value} (hS : S (w.heap.size + 1)) (ha : Parts S w pa a.parts) (ha' : Parts S w pa' a'.parts) (b : Nat) (hb : ¬ S b) (c0 c1 c2 c3 c4 : Value) (o : Obj) :
    Parts S (((((((w.setCell ⟨b,0,none⟩ c0).setCell ⟨b,1,none⟩ c1).setCell ⟨b,2,none⟩ c2).setCell ⟨b,3,none⟩ c3).setCell ⟨b,4,none⟩ c4).alloc o).alloc (.cells #[.int .i64 a.kind,.int .i64 a.place,.string ⟨a.name.toArray⟩,.int .i64 a.value,pa,.int .i64 a'.kind,.int .i64 a'.place,.string ⟨a'.name.toArray⟩,.int .i64 a'.value,pa'] 231)) (.slice (some ⟨w.heap.size + 1,0,none⟩) 2 2) [a,a'] := by
  have hz : ((((((w.setCell ⟨b,0,none⟩ c0).setCell ⟨b,1,none⟩ c1).setCell ⟨b,2,none⟩ c2).setCell ⟨b,3,none⟩ c3).setCell ⟨b,4,none⟩ c4).alloc o).heap.size = w.heap.size + 1 := by simp
  have := Parts.new2 (S := S) (w := (((((w.setCell ⟨b,0,none⟩ c0).setCell ⟨b,1,none⟩ c1).setCell ⟨b,2,none⟩ c2).setCell ⟨b,3,none⟩ c3).setCell ⟨b,4,none⟩ c4).alloc o) (by rw [hz]; exact hS) ((ha.set5 b c0 c1 c2 c3 c4 hb).alloc o) ((ha'.set5 b c0 c1 c2 c3 c4 hb).alloc o)
  rw [hz] at this
  exact this
theorem choice_any (P : Pl) (ws : List Wd) (m : Nat) (R : PS → Ex × PS) (hR : Reads 208 ws P m R) (st : PS) (w : World) (hp : Prs P ws st w) (hm : (st.next ws).rem ws < m) :
    Calls Tryz.prog 250 #[.pointer (some ⟨P.pb,0,none⟩)] w (Gave P ws w st (choiceR ws R st)) := by
  have h1 := lt_of_some hp.blk
  have hn := PS.next_ge (ws := ws) hp.lt
  have HQ := hide (Ok.refl hp)
  have HR := hide hR
  clear hp hR
  have fw2 := fieldw2
  go_enter Tryz.func250,Tryz.ntmps250
  go_wp2_with fail
  refine (advance_any P ws st _ (by exact (HQ.out.alloc _).prs)).mono ?_
  rintro e w1 ⟨rfl,hb⟩
  have HO1 := hide ((HQ.out.alloc _).go hb)
  have HZ1 := hide (res_block hb.1 h1)
  have hs1 := hb.1.size
  simp at hs1
  clear hb
  unfold wdVal
  go_wp2_with fail
  refine (HR.out (st.next ws) _ (by exact HO1.out.prs) hm).mono ?_
  rintro e w2 ⟨qv,rfl,hok,hpa,hge⟩
  obtain ⟨qo,qn,qc,rfl⟩ := hpa.shape
  have HO2 := hide (HO1.out.trans hok)
  have HZ2 := hide ((hok.but.block _ (lt_of_some HZ1.out) (by omega)).trans HZ1.out)
  have HP2 := hide hpa
  have hs2 := hok.size
  have hl2 := hok.prs.lt
  generalize hr : R (st.next ws) = r at *
  have HE1 := hide hr
  clear hok hpa hr
  unfold exVal
  go_wp2_with fail
  refine (expect_any P ws r.2 _ (by exact (HO2.out.alloc _).prs) [116,104,101,110]).mono ?_
  rintro e w3 ⟨rfl,hb3⟩
  have HO3 := hide ((HO2.out.alloc _).go hb3)
  have HZ3 := hide ((hb3.1.block _ (by have := lt_of_some HZ2.out; simp; omega) (by omega)).trans (block_alloc HZ2.out _))
  have HA3 := hide ((hb3.1.block w2.heap.size (by simp) (by omega)).trans (block_new w2 _))
  have HP3 := hide ((HP2.out.alloc _).but (S' := fun k => w1.heap.size ≤ k) hb3.1 (fun k h _ => ⟨h,by omega⟩))
  have hs3 := hb3.1.size
  simp at hs3
  have hg3 := PS.expect_ge (ws := ws) [116,104,101,110] hl2
  clear hb3
  go_wp2_with fail
  refine (HR.out (r.2.expect ws [116,104,101,110]) _ (by exact HO3.out.prs) (by have := PS.rem_le (ws := ws) (Nat.le_trans hge hg3); omega)).mono ?_
  rintro e w4 ⟨qv',rfl,hok,hpa,hge4⟩
  obtain ⟨qo',qn',qc',rfl⟩ := hpa.shape
  have HO4 := hide (HO3.out.trans hok)
  have HZ4 := hide ((hok.but.block _ (lt_of_some HZ3.out) (by omega)).trans HZ3.out)
  have HA4 := hide ((hok.but.block _ (lt_of_some HA3.out) (by omega)).trans HA3.out)
  have HP4 := hide (HP3.out.but (S' := fun k => w1.heap.size ≤ k) hok.but (fun k h _ => ⟨h,by omega⟩))
  have HT4 := hide (hpa.mono (S' := fun k => w1.heap.size ≤ k) (fun k h _ => by omega))
  have hs4 := hok.size
  have hl4 := hok.prs.lt
  generalize hr : R (r.2.expect ws [116,104,101,110]) = r' at *
  have HE2 := hide hr
  clear hok hpa hr
  unfold exVal
  go_wp2_with fail
  refine (expect_any P ws r'.2 _ (by exact (HO4.out.alloc _).prs) [101,108,115,101]).mono ?_
  rintro e w5 ⟨rfl,hb5⟩
  have HO5 := hide ((HO4.out.alloc _).go hb5)
  have HZ5 := hide ((hb5.1.block _ (by have := lt_of_some HZ4.out; simp; omega) (by omega)).trans (block_alloc HZ4.out _))
  have HA5 := hide ((hb5.1.block _ (by have := lt_of_some HA4.out; simp; omega) (by omega)).trans (block_alloc HA4.out _))
  have HB5 := hide ((hb5.1.block w4.heap.size (by simp) (by omega)).trans (block_new w4 _))
  have HP5 := hide ((HP4.out.alloc _).but (S' := fun k => w1.heap.size ≤ k) hb5.1 (fun k h _ => ⟨h,by omega⟩))
  have HT5 := hide ((HT4.out.alloc _).but (S' := fun k => w1.heap.size ≤ k) hb5.1 (fun k h _ => ⟨h,by omega⟩))
  have hs5 := hb5.1.size
  simp at hs5
  have hg5 := PS.expect_ge (ws := ws) [101,108,115,101] hl4
  clear hb5
  go_wp2_with fail
  refine (HR.out (r'.2.expect ws [101,108,115,101]) _ (by exact HO5.out.prs) (by have := PS.rem_le (ws := ws) (Nat.le_trans hge (Nat.le_trans hg3 (Nat.le_trans hge4 hg5))); omega)).mono ?_
  rintro e w6 ⟨qv'',rfl,hok,hpa,hge6⟩
  obtain ⟨qo'',qn'',qc'',rfl⟩ := hpa.shape
  have HO6 := hide (HO5.out.trans hok)
  have HZ6 := hide ((hok.but.block _ (lt_of_some HZ5.out) (by omega)).trans HZ5.out)
  have HA6 := hide ((hok.but.block _ (lt_of_some HA5.out) (by omega)).trans HA5.out)
  have HB6 := hide ((hok.but.block _ (lt_of_some HB5.out) (by omega)).trans HB5.out)
  have HP6 := hide (HP5.out.but (S' := fun k => w1.heap.size ≤ k) hok.but (fun k h _ => ⟨h,by omega⟩))
  have HT6 := hide (HT5.out.but (S' := fun k => w1.heap.size ≤ k) hok.but (fun k h _ => ⟨h,by omega⟩))
  have HF6 := hide (hpa.mono (S' := fun k => w1.heap.size ≤ k) (fun k h _ => by omega))
  have hs6 := hok.size
  generalize hr : R (r'.2.expect ws [101,108,115,101]) = r'' at *
  have HE3 := hide hr
  clear hok hpa hr
  unfold exVal
  have z0 := cell_block HZ6.out 0
  have z1 := cell_block HZ6.out 1
  have z2 := cell_block HZ6.out 2
  have z3 := cell_block HZ6.out 3
  have z4 := cell_block HZ6.out 4
  have zf := free_block HZ6.out
  have zs := lt_of_some HZ6.out
  simp at z0 z1 z2 z3 z4
  have l0 := cell_block HA6.out 0
  have l1 := cell_block HA6.out 1
  have l2 := cell_block HA6.out 2
  have l3 := cell_block HA6.out 3
  have l4 := cell_block HA6.out 4
  have lf := free_block HA6.out
  have ls := lt_of_some HA6.out
  simp at l0 l1 l2 l3 l4
  have m0 := cell_block HB6.out 0
  have m1 := cell_block HB6.out 1
  have m2 := cell_block HB6.out 2
  have m3 := cell_block HB6.out 3
  have m4 := cell_block HB6.out 4
  have mf := free_block HB6.out
  have ms := lt_of_some HB6.out
  simp at m0 m1 m2 m3 m4
  go_wp2
  have hE : choiceR ws R st = (⟨5,(st.cur ws).place,[],0,[r.1,r'.1,r''.1]⟩,r''.2) := by simp only [choiceR,HE1.out,HE2.out,HE3.out]
  rw [hE]
  exact bodyPost_ret (v := exVal ⟨5,(st.cur ws).place,[],0,[r.1,r'.1,r''.1]⟩ (.slice (some ⟨w6.heap.size + 1,0,none⟩) 3 3)) (by simp [results,Tryz.results250,go_sem,z0,z1,z2,z3,z4,zs,exVal]) rfl
    ⟨_,rfl,((HO6.out.set5 _ (Nat.le_refl _) _ _ _ _ _).alloc _).alloc _,(Parts.fin3a (S := fun k => w1.heap.size ≤ k) (by omega) HP6.out HT6.out HF6.out w.heap.size (by omega) _ _ _ _ _ _).mono (fun k h _ => by omega),Nat.le_trans hn (Nat.le_trans hge (Nat.le_trans hg3 (Nat.le_trans hge4 (Nat.le_trans hg5 hge6))))⟩
theorem PS.nameTo_ge {ws : List Wd} {st : PS} (h : st.i < ws.length) : st.i ≤ (st.nameTo ws).i := by
  unfold PS.nameTo; split
  · exact PS.next_ge h
  exact PS.fail_ge h
theorem binding_any (P : Pl) (ws : List Wd) (m : Nat) (R : PS → Ex × PS) (hR : Reads 208 ws P m R) (st : PS) (w : World) (hp : Prs P ws st w) (hm : (st.next ws).rem ws < m) :
    Calls Tryz.prog 251 #[.pointer (some ⟨P.pb,0,none⟩)] w (Gave P ws w st (bindingR ws R st)) := by
  have h1 := lt_of_some hp.blk
  have hn := PS.next_ge (ws := ws) hp.lt
  have HQ := hide (Ok.refl hp)
  have HR := hide hR
  clear hp hR
  have fw2 := fieldw2
  go_enter Tryz.func251,Tryz.ntmps251
  go_wp2_with fail
  refine (advance_any P ws st _ (by exact (HQ.out.alloc _).prs)).mono ?_
  rintro e w1 ⟨rfl,hb⟩
  have HO1 := hide ((HQ.out.alloc _).go hb)
  have HZ1 := hide (res_block hb.1 h1)
  have hs1 := hb.1.size
  simp at hs1
  have hl1 := hb.2.lt
  clear hb
  unfold wdVal
  go_wp2_with fail
  refine (name_any P ws (st.next ws) _ (by exact HO1.out.prs)).mono ?_
  rintro e w2 ⟨rfl,hok⟩
  have HO2 := hide (HO1.out.trans hok)
  have HZ2 := hide ((hok.but.block _ (lt_of_some HZ1.out) (by omega)).trans HZ1.out)
  have hs2 := hok.size
  have hl2 := hok.prs.lt
  have hg2 := PS.nameTo_ge (ws := ws) hl1
  clear hok
  unfold wdVal
  go_wp2_with fail
  refine (expect_any P ws ((st.next ws).nameTo ws) _ (by exact (HO2.out.alloc _).prs) [61]).mono ?_
  rintro e w3 ⟨rfl,hb3⟩
  have HO3 := hide ((HO2.out.alloc _).go hb3)
  have HZ3 := hide ((hb3.1.block _ (by have := lt_of_some HZ2.out; simp; omega) (by omega)).trans (block_alloc HZ2.out _))
  have HA3 := hide ((hb3.1.block w2.heap.size (by simp) (by omega)).trans (block_new w2 _))
  have hs3 := hb3.1.size
  simp at hs3
  have hg3 := PS.expect_ge (ws := ws) [61] hl2
  clear hb3
  go_wp2_with fail
  refine (HR.out (((st.next ws).nameTo ws).expect ws [61]) _ (by exact HO3.out.prs) (by have := PS.rem_le (ws := ws) (Nat.le_trans hg2 hg3); omega)).mono ?_
  rintro e w4 ⟨qv',rfl,hok,hpa,hge4⟩
  obtain ⟨qo',qn',qc',rfl⟩ := hpa.shape
  have HO4 := hide (HO3.out.trans hok)
  have HZ4 := hide ((hok.but.block _ (lt_of_some HZ3.out) (by omega)).trans HZ3.out)
  have HA4 := hide ((hok.but.block _ (lt_of_some HA3.out) (by omega)).trans HA3.out)
  have HT4 := hide (hpa.mono (S' := fun k => w1.heap.size ≤ k) (fun k h _ => by omega))
  have hs4 := hok.size
  have hl4 := hok.prs.lt
  generalize hr : R (((st.next ws).nameTo ws).expect ws [61]) = r' at *
  have HE2 := hide hr
  clear hok hpa hr
  unfold exVal
  go_wp2_with fail
  refine (expect_any P ws r'.2 _ (by exact (HO4.out.alloc _).prs) [105,110]).mono ?_
  rintro e w5 ⟨rfl,hb5⟩
  have HO5 := hide ((HO4.out.alloc _).go hb5)
  have HZ5 := hide ((hb5.1.block _ (by have := lt_of_some HZ4.out; simp; omega) (by omega)).trans (block_alloc HZ4.out _))
  have HA5 := hide ((hb5.1.block _ (by have := lt_of_some HA4.out; simp; omega) (by omega)).trans (block_alloc HA4.out _))
  have HB5 := hide ((hb5.1.block w4.heap.size (by simp) (by omega)).trans (block_new w4 _))
  have HT5 := hide ((HT4.out.alloc _).but (S' := fun k => w1.heap.size ≤ k) hb5.1 (fun k h _ => ⟨h,by omega⟩))
  have hs5 := hb5.1.size
  simp at hs5
  have hg5 := PS.expect_ge (ws := ws) [105,110] hl4
  clear hb5
  go_wp2_with fail
  refine (HR.out (r'.2.expect ws [105,110]) _ (by exact HO5.out.prs) (by have := PS.rem_le (ws := ws) (Nat.le_trans hg2 (Nat.le_trans hg3 (Nat.le_trans hge4 hg5))); omega)).mono ?_
  rintro e w6 ⟨qv'',rfl,hok,hpa,hge6⟩
  obtain ⟨qo'',qn'',qc'',rfl⟩ := hpa.shape
  have HO6 := hide (HO5.out.trans hok)
  have HZ6 := hide ((hok.but.block _ (lt_of_some HZ5.out) (by omega)).trans HZ5.out)
  have HA6 := hide ((hok.but.block _ (lt_of_some HA5.out) (by omega)).trans HA5.out)
  have HB6 := hide ((hok.but.block _ (lt_of_some HB5.out) (by omega)).trans HB5.out)
  have HT6 := hide (HT5.out.but (S' := fun k => w1.heap.size ≤ k) hok.but (fun k h _ => ⟨h,by omega⟩))
  have HF6 := hide (hpa.mono (S' := fun k => w1.heap.size ≤ k) (fun k h _ => by omega))
  have hs6 := hok.size
  generalize hr : R (r'.2.expect ws [105,110]) = r'' at *
  have HE3 := hide hr
  clear hok hpa hr
  unfold exVal
  have z0 := cell_block HZ6.out 0
  have z1 := cell_block HZ6.out 1
  have z2 := cell_block HZ6.out 2
  have z3 := cell_block HZ6.out 3
  have z4 := cell_block HZ6.out 4
  have zf := free_block HZ6.out
  have zs := lt_of_some HZ6.out
  simp at z0 z1 z2 z3 z4
  have l1 := cell_block HA6.out 1
  have ls := lt_of_some HA6.out
  simp at l1
  have m0 := cell_block HB6.out 0
  have m1 := cell_block HB6.out 1
  have m2 := cell_block HB6.out 2
  have m3 := cell_block HB6.out 3
  have m4 := cell_block HB6.out 4
  have mf := free_block HB6.out
  have ms := lt_of_some HB6.out
  simp at m0 m1 m2 m3 m4
  go_wp2
  have hE : bindingR ws R st = (⟨6,(st.cur ws).place,((st.next ws).nameWd ws).text,0,[r'.1,r''.1]⟩,r''.2) := by simp only [bindingR,HE2.out,HE3.out]
  rw [hE]
  exact bodyPost_ret (v := exVal ⟨6,(st.cur ws).place,((st.next ws).nameWd ws).text,0,[r'.1,r''.1]⟩ (.slice (some ⟨w6.heap.size + 1,0,none⟩) 2 2)) (by simp [results,Tryz.results251,go_sem,z0,z1,z2,z3,z4,zs,exVal]) rfl
    ⟨_,rfl,((HO6.out.set5 _ (Nat.le_refl _) _ _ _ _ _).alloc _).alloc _,(Parts.fin2a (S := fun k => w1.heap.size ≤ k) (by omega) HT6.out HF6.out w.heap.size (by omega) _ _ _ _ _ _).mono (fun k h _ => by omega),Nat.le_trans hn (Nat.le_trans hg2 (Nat.le_trans hg3 (Nat.le_trans hge4 (Nat.le_trans hg5 hge6))))⟩
end Go.Proofs.YtpmmjkiclngpmaaGreatDoor
namespace Go.Proofs.YtpmmjkiclngpmaaGreatDoor
open Go.RowKit
def cmpR (ws : List Wd) (R : PS → Ex × PS) (st : PS) : Ex × PS := if (R st).2.isAt ws [[60],[61,61]] then pairR ws R (R st).1 (R st).2 else R st
theorem compare_any (P : Pl) (ws : List Wd) (m : Nat) (R : PS → Ex × PS) (hR : Reads 277 ws P m R) (hlast : ∀ s : PS,s.i + 1 = ws.length → (s.cur ws).kind = 0) :
    Reads 252 ws P m (cmpR ws R) := by
  intro st w hp hm
  have h1 := lt_of_some hp.blk
  have HQ := hide (Ok.refl hp)
  have HR := hide hR
  have HLa := hide hlast
  clear hp hR hlast
  rcases hat : (R st).2.isAt ws [[60],[61,61]] with _ | _
  all_goals
    go_enter Tryz.func252,Tryz.ntmps252
    go_wp2_with fail
    refine (HR.out st _ (by exact (HQ.out.alloc _).prs) hm).mono ?_
    rintro e w1 ⟨qv,rfl,hok,hpa,hge⟩
    obtain ⟨qo,qn,qc,rfl⟩ := hpa.shape
    have HO1 := hide ((HQ.out.alloc _).trans hok)
    have hs1 := hok.size
    simp at hs1
    have HZ1 := hide ((hok.but.block w.heap.size (by simp) (by omega)).trans (block_new w _))
    have HPA := hide hpa
    have HGE := hide hge
    have hlt := hok.prs.lt
    clear hok hpa hge
    unfold exVal
    go_wp2_with fail
    refine (at_two P ws (R st).2 _ (by exact ((HO1.out.alloc _).alloc _).prs) (w1.heap.size + 1) [60] [61,61] (by simp) (by simp) (by simp)).mono ?_
    rintro e w2 ⟨rfl,hb⟩
    rw [hat]
    have HO2 := hide (((HO1.out.alloc _).alloc _).below hb)
    have HLb := hide ((hb.block w1.heap.size (by simp; omega)).trans (block_alloc (block_new w1 _) _))
    have HZ2 := hide ((hb.block w.heap.size (by simp; omega)).trans (block_alloc (block_alloc HZ1.out _) _))
    have HP2 := hide (((HPA.out.alloc _).alloc _).keep (S' := fun k => w.heap.size + 1 ≤ k) (fun k h1 h2 => ⟨by simpa using h1,hb.block k h2⟩))
    have hs2 := hb.size
    simp at hs2
    clear hb
    have l0 := cell_block HLb.out 0
    have l1 := cell_block HLb.out 1
    have l2 := cell_block HLb.out 2
    have l3 := cell_block HLb.out 3
    have l4 := cell_block HLb.out 4
    have lf := free_block HLb.out
    have ls := lt_of_some HLb.out
    simp at l0 l1 l2 l3 l4
  · have HF := hide (show cmpR ws R st = R st by simp [cmpR,hat])
    have z0 := cell_block HZ2.out 0
    have z1 := cell_block HZ2.out 1
    have z2 := cell_block HZ2.out 2
    have z3 := cell_block HZ2.out 3
    have z4 := cell_block HZ2.out 4
    have zf := free_block HZ2.out
    have zs := lt_of_some HZ2.out
    simp at z0 z1 z2 z3 z4
    go_wp2
    rw [HF.out]
    exact bodyPost_ret (v := exVal (R st).1 (.slice qo qn qc)) (by simp [results,Tryz.results252,go_sem,z0,z1,z2,z3,z4,zs,exVal]) rfl ⟨_,rfl,HO2.out.set5 _ (Nat.le_refl _) _ _ _ _ _,(HP2.out.set5 _ _ _ _ _ _ (by omega)).mono (fun k h _ => by omega),HGE.out⟩
  have HF := hide (show cmpR ws R st = pairR ws R (R st).1 (R st).2 by simp [cmpR,hat])
  have hi := PS.isAt_lt HLa.out hat hlt
  have hrn := PS.rem_next hi
  have hrl := PS.rem_le (ws := ws) HGE.out
  have hnx := PS.next_ge hlt
  go_wp2_with fail
  refine (pair_sum P ws m R HR.out (R st).2 _ (by exact HO2.out.prs) (by omega) (R st).1 qo qn qc (fun k => w.heap.size + 1 ≤ k) (by exact HP2.out) (by intro k h; omega)).mono ?_
  rintro e w3 ⟨rv,rfl,hok3,hpa3,hge3⟩
  obtain ⟨ro,rn,rc,rfl⟩ := hpa3.shape
  have HO3 := hide (HO2.out.trans hok3)
  have HZ3 := hide ((hok3.but.block _ (lt_of_some HZ2.out) (by omega)).trans HZ2.out)
  have HP3 := hide (hpa3.mono (S' := fun k => w.heap.size + 1 ≤ k) (fun k h _ => by rcases h with h | h; exact h.1; omega))
  have HG3 := hide hge3
  clear hok3 hpa3 hge3
  have z0 := cell_block HZ3.out 0
  have z1 := cell_block HZ3.out 1
  have z2 := cell_block HZ3.out 2
  have z3 := cell_block HZ3.out 3
  have z4 := cell_block HZ3.out 4
  have zf := free_block HZ3.out
  have zs := lt_of_some HZ3.out
  simp at z0 z1 z2 z3 z4
  unfold exVal
  generalize hx : pairR ws R (R st).1 (R st).2 = x at *
  have HX := hide hx
  clear hx
  go_wp2
  rw [HF.out]
  exact bodyPost_ret (v := exVal x.1 (.slice ro rn rc)) (by simp [results,Tryz.results252,go_sem,z0,z1,z2,z3,z4,zs,exVal]) rfl ⟨_,rfl,HO3.out.set5 _ (Nat.le_refl _) _ _ _ _ _,(HP3.out.set5 _ _ _ _ _ _ (by omega)).mono (fun k h _ => by omega),Nat.le_trans HGE.out (Nat.le_trans hnx HG3.out)⟩
end Go.Proofs.YtpmmjkiclngpmaaGreatDoor
