/- YtpmmjkiclngpmaaGreatDoorB19 -/
import Derived.Test.YtpmmjkiclngpmaaGreatDoorB03
set_option maxRecDepth 100000
set_option linter.unusedSimpArgs false
set_option linter.unusedVariables false
set_option maxHeartbeats 12800000
namespace Go.Proofs.YtpmmjkiclngpmaaGreatDoor
open Go.RowKit
structure Imp where
  name : List UInt8
  place : Nat
def impCells (p : Imp) : List Value := [.string ⟨p.name.toArray⟩,.int .i64 p.place]
def impVal (p : Imp) : Value := .agg #[.string ⟨p.name.toArray⟩,.int .i64 p.place]
def impR (ws : List Wd) (st : PS) : Imp × PS :=
  (⟨((st.expect ws [117,115,101]).nameWd ws).text,((st.expect ws [117,115,101]).nameWd ws).place⟩,((st.expect ws [117,115,101]).nameTo ws).expect ws [59])
theorem importLine_any (P : Pl) (ws : List Wd) (st : PS) (w : World) (hp : Prs P ws st w) :
    Calls Tryz.prog 156 #[.pointer (some ⟨P.pb,0,none⟩)] w fun e w' => e = .returned (impVal (impR ws st).1) ∧ Ok P ws w (impR ws st).2 w' ∧ (st.expect ws [117,115,101]).i ≤ (impR ws st).2.i := by
  have h1 := lt_of_some hp.blk
  have HQ := hide (Ok.refl hp)
  clear hp
  go_enter Tryz.func156,Tryz.ntmps156
  go_wp2_with fail
  refine (expect_any P ws st _ (by exact (HQ.out.alloc _).prs) [117,115,101]).mono ?_
  rintro e w1 ⟨rfl,hb⟩
  have HO1 := hide ((HQ.out.alloc _).go hb)
  have HZ1 := hide ((hb.1.block w.heap.size (by simp) (by omega)).trans (block_new w _))
  have hs1 := hb.1.size
  have hl1 := hb.2.lt
  simp at hs1
  clear hb
  go_wp2_with fail
  refine (name_any P ws (st.expect ws [117,115,101]) _ (by exact HO1.out.prs)).mono ?_
  rintro e w2 ⟨rfl,hok⟩
  have HO2 := hide (HO1.out.trans hok)
  have HZ2 := hide ((hok.but.block _ (lt_of_some HZ1.out) (by omega)).trans HZ1.out)
  have hs2 := hok.size
  have hl2 := hok.prs.lt
  have hg2 := PS.nameTo_ge (ws := ws) hl1
  clear hok
  unfold wdVal
  go_wp2_with fail
  refine (expect_any P ws ((st.expect ws [117,115,101]).nameTo ws) _ (by exact (HO2.out.alloc _).prs) [59]).mono ?_
  rintro e w3 ⟨rfl,hb⟩
  have HO3 := hide ((HO2.out.alloc _).go hb)
  have HZ3 := hide ((hb.1.block w.heap.size (by simp; omega) (by omega)).trans (block_alloc HZ2.out _))
  have HA3 := hide ((hb.1.block w2.heap.size (by simp) (by omega)).trans (block_new w2 _))
  have hg3 := PS.expect_ge (ws := ws) [59] hl2
  clear hb
  have l1 := cell_block HA3.out 1
  have l2 := cell_block HA3.out 2
  have ls := lt_of_some HA3.out
  simp at l1 l2
  have z0 := cell_block HZ3.out 0
  have z1 := cell_block HZ3.out 1
  have zf := free_block HZ3.out
  have zs := lt_of_some HZ3.out
  simp at z0 z1
  go_wp2
  exact bodyPost_ret (v := impVal (impR ws st).1) (by simp [results,Tryz.results156,go_sem,z0,z1,zs,impVal,impR]) rfl ⟨rfl,(HO3.out.set _ 0 _ (Nat.le_refl _)).set _ 1 _ (Nat.le_refl _),Nat.le_trans hg2 hg3⟩
def impsN (ws : List Wd) : Nat → PS → List Imp × PS
  | 0,st => ([],st)
  | n + 1,st => if st.isAt ws [[117,115,101]] then ((impR ws st).1 :: (impsN ws n (impR ws st).2).1,(impsN ws n (impR ws st).2).2) else ([],st)
theorem info_import : (Tryz.prog.info? 220).map (fun i => (i.zero,i.size,i.bytes)) = some (some (.agg #[.string ⟨#[]⟩,.int .i64 0]),2,24) := by kernel_rfl
theorem owns_shape {w : World} {base : Nat} {e : TypeId} {size n : Nat} {v : Value} {xs : List Value} (h : w.ownsRow base e size v n xs) : ∃ po pn pc,v = .slice po pn pc := by
  rcases h.2 with ⟨h,_⟩ | ⟨g,cap,cur,h,_⟩ <;> exact ⟨_,_,_,h⟩
theorem owns_in {w : World} {base : Nat} {e : TypeId} {size n : Nat} {v : Value} {xs : List Value} (h : w.ownsRow base e size v n xs) : ∀ g,v.ownBlock = some g → base ≤ g ∧ g < w.heap.size := by
  intro g hg
  rcases h.2 with ⟨rfl,_⟩ | ⟨g0,cap,cur,rfl,hb,hc,_⟩
  · simp [Value.ownBlock] at hg
  · simp [Value.ownBlock] at hg
    subst hg
    exact ⟨hb,lt_of_some hc⟩
theorem Ok.grown' {P : Pl} {ws : List Wd} {st : PS} {w0 w w' : World} {r : Option Nat} (h : Ok P ws w0 st w) (hg : w.grownBy w' r) (hb : ∀ g,r = some g → w0.heap.size ≤ g) : Ok P ws w0 st w' := by
  have hp : ∀ k,k < w0.heap.size → w'.heap[k]? = w.heap[k]? := fun k hk => hg.block k (Nat.lt_of_lt_of_le hk h.size) (by intro e; have := hb k e.symm; omega)
  refine ⟨h.p1,h.p2,⟨hg.os.trans h.but.os,hg.tape.trans h.but.tape,hg.output.trans h.but.output,Nat.le_trans h.size hg.size,fun k hk hne => (hp k hk).trans (h.but.block k hk hne)⟩,?_⟩
  exact ⟨(hp _ h.p1).trans h.prs.blk,(hp _ h.p2).trans h.prs.row,h.prs.cells,h.prs.ne,h.prs.lt,h.prs.small,h.prs.fits⟩
theorem imps_any (P : Pl) (ws : List Wd) (hlast : ∀ s : PS,s.i + 1 = ws.length → (s.cur ws).kind = 0) (st : PS) (w : World) (hp : Prs P ws st w) (b : Nat) (hb0 : w.cell? ⟨b,0,none⟩ = some (.string ⟨[117,115,101].toArray⟩)) (hbb : b < w.heap.size) (hbp : b ≠ P.pb) :
    Calls Tryz.prog 155 #[.pointer (some ⟨P.pb,0,none⟩),.func (.func 156) #[.pointer (some ⟨P.pb,0,none⟩)] #[],.slice (some ⟨b,0,none⟩) 1 1] w fun e w' =>
      ∃ v,e = .returned v ∧ Ok P ws w (impsN ws ws.length st).2 w' ∧ w'.ownsRow w.heap.size 220 2 v (impsN ws ws.length st).1.length ((impsN ws ws.length st).1.flatMap impCells) := by
  have h1 := lt_of_some hp.blk
  have hsm := hp.small
  have hl0 := hp.lt
  have HQ := hide (Ok.refl hp)
  have HLa := hide hlast
  have HC0 := hide hb0
  clear hp hlast hb0
  obtain ⟨i0,hi,hz0,hz1,hz2⟩ := info_parts info_import
  go_enter Tryz.func155,Tryz.ntmps155
  go_wp2
  go_loopg [7] ws.length (fun n v wr => ∃ (tl : List Imp) (s : PS),Hid (impsN ws ws.length st = (tl ++ (impsN ws n s).1,(impsN ws n s).2)) ∧ s.rem ws < n ∧ tl.length + n ≤ ws.length ∧ Hid (Ok P ws w s wr) ∧
      Hid (wr.ownsRow w.heap.size 220 2 v tl.length (tl.flatMap impCells)))
  case atStart => exact ⟨[],st,rfl,by simp only [PS.rem]; omega,by simp,HQ.out,World.ownsRow_nil _ _ _ _⟩
  case round =>
    obtain ⟨tl,s,HC,hrem,hsum,HO,HOw⟩ := hrel
    have hlt := HO.out.prs.lt
    have hsr := HO.out.size
    rcases hat : s.isAt ws [[117,115,101]] with _ | _
    · have HF2 := hide (show impsN ws ws.length st = (tl,s) by
        rw [HC.out]
        cases gk with
        | zero => omega
        | succ n => simp [impsN,hat])
      go_wp2_with fail
      refine (at_one P ws s _ (by exact HO.out.prs) b [117,115,101] (by exact (HO.out.but.cell hbb hbp 0).trans HC0.out) (by omega)).mono ?_
      rintro e w2 ⟨rfl,hb⟩
      rw [hat]
      have HO2 := hide (HO.out.below hb)
      have HOw2 := hide (owns_keep HOw.out (w' := w2) (fun k e => hb.block k (owns_in HOw.out k e).2))
      clear hb
      go_wp2
      go_ret
      rw [HF2.out]
      exact ⟨_,rfl,HO2.out,HOw2.out⟩
    · have hi2 := PS.isAt_lt HLa.out hat hlt
      have hrn := PS.rem_next hi2
      have hex : s.expect ws [117,115,101] = s.next ws := by simp [PS.expect,hat]
      go_wp2_with fail
      refine (at_one P ws s _ (by exact HO.out.prs) b [117,115,101] (by exact (HO.out.but.cell hbb hbp 0).trans HC0.out) (by omega)).mono ?_
      rintro e w2 ⟨rfl,hb⟩
      rw [hat]
      have HO2 := hide (HO.out.below hb)
      have HOw2 := hide (owns_keep HOw.out (w' := w2) (fun k e => hb.block k (owns_in HOw.out k e).2))
      clear hb
      go_wp2_with fail
      refine (importLine_any P ws s _ (by exact HO2.out.prs)).mono ?_
      rintro e w3 ⟨rfl,hok,hge⟩
      rw [hex] at hge
      have HO3 := hide (HO2.out.trans hok)
      have HOw3 := hide (owns_keep HOw2.out (w' := w3) (fun k e => hok.but.block k (owns_in HOw2.out k e).2 (by have := (owns_in HOw2.out k e).1; omega)))
      have HG3 := hide hge
      have hs3 := HO3.out.size
      generalize hr3 : impR ws s = r3 at *
      have HE3 := hide hr3
      clear hok hge hr3 hex
      unfold impVal
      go_wp2_with (at_builtin; refine wpList_append_own _ rfl _ _ 215 rfl w.heap.size 220 i0 (.agg #[.string ⟨#[]⟩,.int .i64 0]) 2 24 Tryz.underlying215 hi hz0 hz1 hz2 rfl (by decide) _ _ _ rfl (HOw3.out.alloc _) ⟨w3.heap.size,0,none⟩ 1 1 (impCells r3.1) rfl rfl ?c1 ?c2 ?c3 ?c4 ?c5 ?_)
      case c1 =>
        intro j u hj
        match j,hj with
        | 0,hj => simp [impCells] at hj; subst hj; simp [Addr.add]
        | 1,hj => simp [impCells] at hj; subst hj; simp [Addr.add]
      case c2 => intro u hu; simp [impCells] at hu; rcases hu with rfl | rfl <;> rfl
      case c3 => unfold maxLen; omega
      case c4 => omega
      case c5 => simp; omega
      intro v' w4 hown' hgrow _
      have HO4 := hide ((HO3.out.alloc _).grown' hgrow (fun g e => (owns_in HOw3.out g e).1))
      have HOw4 := hide hown'
      clear hgrow hown'
      go_wp2
      go_roundg (gk - 1)
      case measure => omega
      case rel =>
        refine ⟨tl ++ [r3.1],r3.2,?_,?_,?_,HO4.out,?_⟩
        · show impsN ws ws.length st = _
          rw [HC.out]
          cases gk with
          | zero => omega
          | succ n => simp [impsN,hat,HE3.out]
        · have := PS.rem_le (ws := ws) HG3.out; omega
        · simp; omega
        · show w4.ownsRow _ _ _ _ _ _
          have := HOw4.out; simpa using this
end Go.Proofs.YtpmmjkiclngpmaaGreatDoor
