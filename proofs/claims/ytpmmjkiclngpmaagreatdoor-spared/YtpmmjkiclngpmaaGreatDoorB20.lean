/- YtpmmjkiclngpmaaGreatDoorB20 -/
import Derived.Test.YtpmmjkiclngpmaaGreatDoorB03
import Derived.Deep.RegionWith
set_option maxRecDepth 100000
set_option linter.unusedSimpArgs false
set_option linter.unusedVariables false
set_option maxHeartbeats 12800000
namespace Go.Proofs.YtpmmjkiclngpmaaGreatDoor
open Go.RowKit
structure Prm where
  name : List UInt8
  place : Nat
  typ : Nat
def prmCells (p : Prm) : List Value := [.string ⟨p.name.toArray⟩,.int .i64 p.place,.int .i64 p.typ]
def prmVal (p : Prm) : Value := .agg #[.string ⟨p.name.toArray⟩,.int .i64 p.place,.int .i64 p.typ]
def paramR (ws : List Wd) (st : PS) : Prm × PS :=
  (⟨(st.nameWd ws).text,(st.nameWd ws).place,((st.nameTo ws).expect ws [58]).typ ws⟩,((st.nameTo ws).expect ws [58]).typTo ws)
theorem PS.typTo_ge {ws : List Wd} {st : PS} (h : st.i < ws.length) : st.i ≤ (st.typTo ws).i := by
  unfold PS.typTo; split
  · exact PS.next_ge h
  · exact PS.expect_ge _ h
theorem Ok.set3' {P : Pl} {ws : List Wd} {st : PS} {w0 w : World} (h : Ok P ws w0 st w) (c0 c1 c2 : Value) :
    Ok P ws w0 st (((w.setCell ⟨w0.heap.size,0,none⟩ c0).setCell ⟨w0.heap.size,1,none⟩ c1).setCell ⟨w0.heap.size,2,none⟩ c2) := h.set3 _ (Nat.le_refl _) c0 c1 c2
theorem param_any (P : Pl) (ws : List Wd) (st : PS) (w : World) (hp : Prs P ws st w) :
    Calls Tryz.prog 206 #[.pointer (some ⟨P.pb,0,none⟩)] w fun e w' => e = .returned (prmVal (paramR ws st).1) ∧ Ok P ws w (paramR ws st).2 w' ∧ st.i ≤ (paramR ws st).2.i := by
  have h1 := lt_of_some hp.blk
  have hg1 := PS.nameTo_ge (ws := ws) hp.lt
  have HQ := hide (Ok.refl hp)
  clear hp
  go_enter Tryz.func206,Tryz.ntmps206
  go_wp2_with fail
  refine (name_any P ws st _ (by exact (HQ.out.alloc _).prs)).mono ?_
  rintro e w1 ⟨rfl,hok⟩
  have HO1 := hide ((HQ.out.alloc _).trans hok)
  have HZ1 := hide ((hok.but.block w.heap.size (by simp) (by omega)).trans (block_new w _))
  have hs1 := hok.size
  have hl1 := hok.prs.lt
  simp at hs1
  clear hok
  unfold wdVal
  go_wp2_with fail
  refine (expect_any P ws (st.nameTo ws) _ (by exact (HO1.out.alloc _).prs) [58]).mono ?_
  rintro e w2 ⟨rfl,hb⟩
  have HO2 := hide ((HO1.out.alloc _).go hb)
  have HZ2 := hide ((hb.1.block w.heap.size (by simp; omega) (by omega)).trans (block_alloc HZ1.out _))
  have HA2 := hide ((hb.1.block w1.heap.size (by simp) (by omega)).trans (block_new w1 _))
  have hs2 := hb.1.size
  have hl2 := hb.2.lt
  simp at hs2
  have hg2 := PS.expect_ge (ws := ws) [58] hl1
  have hg3 := PS.typTo_ge (ws := ws) hl2
  clear hb
  have l1 := cell_block HA2.out 1
  have l2 := cell_block HA2.out 2
  have ls := lt_of_some HA2.out
  simp at l1 l2
  have zs := lt_of_some HZ2.out
  go_wp2_with fail
  go_region_with (go_at_call 207; refine (typeName_any P ws ((st.nameTo ws).expect ws [58]) _ (by first | exact HO2.out.drew.prs | exact HO2.out.prs)).mono ?_; rintro e w3 ⟨rfl,hok⟩; have HA3 := hide ((hok.but.block w1.heap.size ls (by omega)).trans HA2.out); have HZ3 := hide ((hok.but.block w.heap.size zs (by omega)).trans HZ2.out); have m1 := cell_block HA3.out 1; have m2 := cell_block HA3.out 2; have ms := lt_of_some HA3.out; have y0 := cell_block HZ3.out 0; have y1 := cell_block HZ3.out 1; have y2 := cell_block HZ3.out 2; have yf := free_block HZ3.out; have ys := lt_of_some HZ3.out; simp at m1 m2 y0 y1 y2; have HOK := hide hok; clear hok)
  all_goals
    go_wp2
    exact bodyPost_ret (v := prmVal (paramR ws st).1) (by simp [results,Tryz.results206,go_sem,y0,y1,y2,ys,prmVal,paramR]) rfl ⟨rfl,(HO2.out.drew.trans HOK.out).set3' _ _ _,Nat.le_trans hg1 (Nat.le_trans hg2 hg3)⟩
def prmsN (ws : List Wd) : Nat → PS → List Prm × PS
  | 0,st => ([],st)
  | n + 1,st => if st.isAt ws [[44]] then ((paramR ws (st.next ws)).1 :: (prmsN ws n (paramR ws (st.next ws)).2).1,(prmsN ws n (paramR ws (st.next ws)).2).2) else ([],st)
def prmsR (ws : List Wd) (st : PS) : List Prm × PS :=
  let s1 := st.expect ws [40]
  if s1.isAt ws [[41]] then ([],s1.next ws)
  else ((paramR ws s1).1 :: (prmsN ws ws.length (paramR ws s1).2).1,(prmsN ws ws.length (paramR ws s1).2).2.expect ws [41])
theorem info_param : (Tryz.prog.info? 301).map (fun i => (i.zero,i.size,i.bytes)) = some (some (.agg #[.string ⟨#[]⟩,.int .i64 0,.int .i64 0]),3,32) := by kernel_rfl
def GaveP (P : Pl) (ws : List Wd) (w : World) (st : PS) (r : List Prm × PS) (e : Ending) (w' : World) : Prop :=
  ∃ po pn pc,e = .returned (.slice po pn pc) ∧ Ok P ws w r.2 w' ∧ w'.ownsRow w.heap.size 301 3 (.slice po pn pc) r.1.length (r.1.flatMap prmCells) ∧ st.i ≤ r.2.i
theorem prms_any (P : Pl) (ws : List Wd) (hlast : ∀ s : PS,s.i + 1 = ws.length → (s.cur ws).kind = 0) (st : PS) (w : World) (hp : Prs P ws st w) :
    Calls Tryz.prog 205 #[.pointer (some ⟨P.pb,0,none⟩),.func (.func 206) #[.pointer (some ⟨P.pb,0,none⟩)] #[]] w (GaveP P ws w st (prmsR ws st)) := by
  have h1 := lt_of_some hp.blk
  have hg0 := PS.expect_ge (ws := ws) [40] hp.lt
  have hsm := hp.small
  have HQ := hide (Ok.refl hp)
  have HLa := hide hlast
  clear hp hlast
  rcases hc : (st.expect ws [40]).isAt ws [[41]] with _ | _
  rotate_left
  · have HF := hide (show prmsR ws st = ([],(st.expect ws [40]).next ws) by simp [prmsR,hc])
    have HS := hide (show (st.expect ws [40]).skipTo ws [41] = (st.expect ws [40]).next ws by simp [PS.skipTo,hc])
    go_enter Tryz.func205,Tryz.ntmps205
    go_wp2_with fail
    refine (expect_any P ws st _ (by exact HQ.out.prs) [40]).mono ?_
    rintro e w1 ⟨rfl,hb⟩
    have HO1 := hide (HQ.out.go hb)
    have hl1 := hb.2.lt
    clear hb
    go_wp2_with fail
    refine (skip_any P ws (st.expect ws [40]) _ (by exact HO1.out.prs) [41]).mono ?_
    rintro e w2 ⟨rfl,hb⟩
    rw [HS.out] at hb
    have HO2 := hide (HO1.out.go hb)
    have hn := PS.next_ge (ws := ws) hl1
    clear hb
    rw [hc]
    go_wp2
    go_ret
    rw [HF.out]
    exact ⟨none,0,0,rfl,HO2.out,World.ownsRow_nil _ _ _ _,Nat.le_trans hg0 hn⟩
  · have HF := hide (show prmsR ws st = ((paramR ws (st.expect ws [40])).1 :: (prmsN ws ws.length (paramR ws (st.expect ws [40])).2).1,(prmsN ws ws.length (paramR ws (st.expect ws [40])).2).2.expect ws [41]) by simp [prmsR,hc])
    have HS := hide (show (st.expect ws [40]).skipTo ws [41] = st.expect ws [40] by simp [PS.skipTo,hc])
    obtain ⟨i0,hi,hz0,hz1,hz2⟩ := info_parts info_param
    go_enter Tryz.func205,Tryz.ntmps205
    go_wp2_with fail
    refine (expect_any P ws st _ (by exact HQ.out.prs) [40]).mono ?_
    rintro e w1 ⟨rfl,hb⟩
    have HO1 := hide (HQ.out.go hb)
    clear hb
    go_wp2_with fail
    refine (skip_any P ws (st.expect ws [40]) _ (by exact HO1.out.prs) [41]).mono ?_
    rintro e w2 ⟨rfl,hb⟩
    rw [HS.out] at hb
    have HO2 := hide (HO1.out.go hb)
    have hs2 := HO2.out.size
    clear hb
    rw [hc]
    go_wp2_with fail
    refine (param_any P ws (st.expect ws [40]) _ (by exact HO2.out.prs)).mono ?_
    rintro e w3 ⟨rfl,hok,hge⟩
    have HO3 := hide (HO2.out.trans hok)
    have hs3 := hok.size
    have hl3 := hok.prs.lt
    generalize hr : paramR ws (st.expect ws [40]) = r at *
    have HE := hide hr
    clear hok hr
    unfold prmVal
    go_wp2
    go_loopg [5] ws.length (fun n v wr => ∃ (tl : List Prm) (s : PS) (g cap : Nat),v = .slice (some ⟨g,0,none⟩) (tl.length + 1) cap ∧ Hid (prmsN ws ws.length r.2 = (tl ++ (prmsN ws n s).1,(prmsN ws n s).2)) ∧ s.rem ws < n ∧ tl.length + n ≤ ws.length ∧ Hid (Ok P ws w s wr) ∧
        Hid (wr.ownsRow w.heap.size 301 3 (.slice (some ⟨g,0,none⟩) (tl.length + 1) cap) (tl.length + 1) ((r.1 :: tl).flatMap prmCells)) ∧ r.2.i ≤ s.i)
    case atStart =>
      refine ⟨[],r.2,w3.heap.size,1,rfl,rfl,?_,by simp,HO3.out.alloc _,?_,Nat.le_refl _⟩
      · simp only [PS.rem]; omega
      · exact ⟨rfl,Or.inr ⟨w3.heap.size,1,_,rfl,by omega,block_new _ _,Nat.le_refl _,by unfold maxLen; omega,rfl,rfl⟩⟩
    case round =>
      obtain ⟨tl,s,g,cap,rfl,HC,hrem,hsum,HO,HOw,hge'⟩ := hrel
      have hlt := HO.out.prs.lt
      have hgl := owns_lt HOw.out
      rcases hat : s.isAt ws [[44]] with _ | _
      · have HF2 := hide (show prmsN ws ws.length r.2 = (tl,s) by
          rw [HC.out]
          cases gk with
          | zero => omega
          | succ n => simp [prmsN,hat])
        have HS2 := hide (show s.skipTo ws [44] = s by simp [PS.skipTo,hat])
        go_wp2_with fail
        refine (skip_any P ws s _ (by exact HO.out.prs) [44]).mono ?_
        rintro e w4 ⟨rfl,hb⟩
        rw [HS2.out] at hb
        have HO4 := hide (HO.out.go hb)
        have HOw4 := hide (owns_keep HOw.out (w' := w4) (fun k e => hb.1.block k (by simp [Value.ownBlock] at e; omega) (by simp [Value.ownBlock] at e; omega)))
        clear hb
        rw [hat]
        go_wp2_with fail
        refine (expect_any P ws s _ (by exact HO4.out.prs) [41]).mono ?_
        rintro e w5 ⟨rfl,hb⟩
        have HO5 := hide (HO4.out.go hb)
        have hgl4 := owns_lt HOw4.out
        have HOw5 := hide (owns_keep HOw4.out (w' := w5) (fun k e => hb.1.block k (by simp [Value.ownBlock] at e; omega) (by simp [Value.ownBlock] at e; omega)))
        have hg5 := PS.expect_ge (ws := ws) [41] hlt
        clear hb
        go_wp2
        go_ret
        rw [HF.out,HF2.out]
        exact ⟨_,_,_,rfl,HO5.out,HOw5.out,Nat.le_trans hg0 (Nat.le_trans hge (Nat.le_trans hge' hg5))⟩
      · have hi2 := PS.isAt_lt HLa.out hat hlt
        have hrn := PS.rem_next hi2
        have hnx := PS.next_ge hlt
        have HS2 := hide (show s.skipTo ws [44] = s.next ws by simp [PS.skipTo,hat])
        go_wp2_with fail
        refine (skip_any P ws s _ (by exact HO.out.prs) [44]).mono ?_
        rintro e w4 ⟨rfl,hb⟩
        rw [HS2.out] at hb
        have HO4 := hide (HO.out.go hb)
        have HOw4 := hide (owns_keep HOw.out (w' := w4) (fun k e => hb.1.block k (by simp [Value.ownBlock] at e; omega) (by simp [Value.ownBlock] at e; omega)))
        have hgl4 := owns_lt HOw4.out
        clear hb
        rw [hat]
        go_wp2_with fail
        refine (param_any P ws (s.next ws) _ (by exact HO4.out.prs)).mono ?_
        rintro e w5 ⟨rfl,hok5,hge5⟩
        have HO5 := hide (HO4.out.trans hok5)
        have HOw5 := hide (owns_keep HOw4.out (w' := w5) (fun k e => hok5.but.block k (by simp [Value.ownBlock] at e; omega) (by simp [Value.ownBlock] at e; omega)))
        have HG5 := hide hge5
        have hgl5 := owns_lt HOw5.out
        have hs5 := HO5.out.size
        generalize hr5 : paramR ws (s.next ws) = r5 at *
        have HE5 := hide hr5
        clear hok5 hge5 hr5
        unfold prmVal
        go_wp2_with (at_builtin; refine wpList_append_told _ rfl _ _ 227 rfl w.heap.size 301 i0 (.agg #[.string ⟨#[]⟩,.int .i64 0,.int .i64 0]) 3 32 Tryz.underlying227 hi hz0 hz1 hz2 rfl (by decide) g (tl.length + 1) cap _ rfl (HOw5.out.alloc _) ⟨w5.heap.size,0,none⟩ 1 1 (prmCells r5.1) rfl rfl ?c1 ?c2 ?c3 ?c4 ?c5 ?_)
        case c1 =>
          intro j u hj
          match j,hj with
          | 0,hj => simp [prmCells] at hj; subst hj; simp [Addr.add]
          | 1,hj => simp [prmCells] at hj; subst hj; simp [Addr.add]
          | 2,hj => simp [prmCells] at hj; subst hj; simp [Addr.add]
        case c2 => intro u hu; simp [prmCells] at hu; rcases hu with rfl | rfl | rfl <;> rfl
        case c3 => unfold maxLen; omega
        case c4 => omega
        case c5 => simp; omega
        intro g' cap' w6 hown' hgrow hwhere
        have HO6 := hide ((HO5.out.alloc _).grown hgrow hgl.1)
        have HOw6 := hide hown'
        clear hgrow hown' hwhere
        go_wp2
        go_roundg (gk - 1)
        case measure => omega
        case rel =>
          refine ⟨tl ++ [r5.1],r5.2,g',cap',by simp,?_,?_,?_,HO6.out,?_,?_⟩
          · show prmsN ws ws.length r.2 = _
            rw [HC.out]
            cases gk with
            | zero => omega
            | succ n => simp [prmsN,hat,HE5.out]
          · have := PS.rem_le (ws := ws) HG5.out; omega
          · simp; omega
          · show w6.ownsRow _ _ _ _ _ _
            have := HOw6.out; simpa using this
          · exact Nat.le_trans hge' (Nat.le_trans hnx HG5.out)
end Go.Proofs.YtpmmjkiclngpmaaGreatDoor
