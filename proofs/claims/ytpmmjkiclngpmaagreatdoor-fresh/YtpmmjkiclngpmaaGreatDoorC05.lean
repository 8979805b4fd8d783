/- C05: of the texts Fre3, Fre4, Fre5. -/
import Derived.Test.YtpmmjkiclngpmaaGreatDoorC04
import Derived.Test.YtpmmjkiclngpmaaGreatDoorC03
import Derived.Test.YtpmmjkiclngpmaaGreatDoorB45
import Derived.Deep.RegionHeld3
import Derived.Deep.DeepCutAuto
import Derived.Deep.QuietTactic
import Derived.BigQuiet
set_option maxRecDepth 100000
set_option linter.unusedSimpArgs false
set_option linter.unusedVariables false
/- The contract of alike: two stores with the same texts answer the same. -/
namespace Go.Proofs.YtpmmjkiclngpmaaGreatDoor
open Go.RowKit

abbrev nms4 : Array Value := #[.string ⟨#[97]⟩, .string ⟨#[98]⟩, .string ⟨#[99]⟩, .string ⟨#[100]⟩]
abbrev txs4 (T : Nat → List UInt8) : Array Value := #[.string ⟨(T 0).toArray⟩, .string ⟨(T 1).toArray⟩, .string ⟨(T 2).toArray⟩, .string ⟨(T 3).toArray⟩]
theorem ButS.cell {X : Nat → Prop} {w w' : World} (h : ButS X w w') {b : Nat} (hb : b < w.heap.size) (hX : ¬ X b) (o : Nat) : w'.cell? ⟨b, o, none⟩ = w.cell? ⟨b, o, none⟩ := World.cell?_of_block (h.block b hb hX)
theorem nms_at {w : World} {b : Nat} {t : TypeId} (h : w.heap[b]? = some (.cells nms4 t (0, 0))) {j : Nat} (hj : j < 4) : w.cell? ⟨b, j, none⟩ = some (.string ⟨(nm4 j).toArray⟩) := by
  rw [cell_block h]
  rcases four hj with rfl | rfl | rfl | rfl <;> rfl
theorem txs_at {T : Nat → List UInt8} {w : World} {b : Nat} {t : TypeId} (h : w.heap[b]? = some (.cells (txs4 T) t (0, 0))) {j : Nat} (hj : j < 4) : w.cell? ⟨b, j, none⟩ = some (.string ⟨(T j).toArray⟩) := by
  rw [cell_block h]
  rcases four hj with rfl | rfl | rfl | rfl <;> rfl
/-- Two stores, side by side, and what is kept besides. -/
structure Two2 (w0 : World) (p q : SP) (s t : Sto) (w : World) : Prop where
  sp : StAt w p s
  sq : StAt w q t
  bu : ButS (fun k => p.own k ∨ q.own k) w0 w
theorem Two2.p {w0 : World} {p q : SP} {s s' t : Sto} {w w' : World} (h : Two2 w0 p q s t w) (hd : ∀ k, p.own k → ¬ q.own k) (hqx : ∀ k, ¬ q.ex k) (hb : ButS p.own w w') (hs : StAt w' p s') : Two2 w0 p q s' t w' :=
  ⟨hs, h.sq.other h.sp (fun k hk hp => hd k hp hk) hqx hb, h.bu.trans (hb.mono fun k _ hk => Or.inl hk)⟩
theorem Two2.q {w0 : World} {p q : SP} {s t t' : Sto} {w w' : World} (h : Two2 w0 p q s t w) (hd : ∀ k, p.own k → ¬ q.own k) (hpx : ∀ k, ¬ p.ex k) (hb : ButS q.own w w') (ht : StAt w' q t') : Two2 w0 p q s t' w' :=
  ⟨h.sp.other h.sq hd hpx hb, ht, h.bu.trans (hb.mono fun k _ hk => Or.inr hk)⟩
theorem Two2.below {w0 : World} {p q : SP} {s t : Sto} {w w' : World} (h : Two2 w0 p q s t w) (hb : Below w.heap.size w w') : Two2 w0 p q s t w' := ⟨h.sp.below hb, h.sq.below hb, h.bu.trans (ButS.of_below hb)⟩
theorem dgCells_at : ∀ (l : List Dg) (j : Nat) (hj : j < l.length), (dgCells l)[j * 3]? = some (.string ⟨(l[j].name).toArray⟩) ∧ (dgCells l)[j * 3 + 1]? = some (.int .i64 (l[j].code : Int)) ∧ (dgCells l)[j * 3 + 2]? = some (.int .i64 (l[j].place : Int))
  | x :: r, 0, _ => ⟨rfl, rfl, rfl⟩
  | x :: r, j + 1, hj => by
    have := dgCells_at r j (by simpa using hj)
    have e : dgCells (x :: r) = [.string ⟨x.name.toArray⟩, .int .i64 (x.code : Int), .int .i64 (x.place : Int)] ++ dgCells r := rfl
    rw [e, show (j + 1) * 3 = j * 3 + 3 by omega, List.getElem?_append_right (by simp), List.getElem?_append_right (by simp), List.getElem?_append_right (by simp)]
    simpa using this
theorem below_drewN {B : Nat} {a w : World} (h : Below B a w) (n : Nat) : Below B a (w.drewN n) := ⟨h.os, h.tape, h.output, h.size, h.block⟩
theorem row4 {W : World} {b : Nat} (h : W.heap[b]? = some (.cells #[.int .i64 4] 3 (0, 0))) : W.ownsRow 0 3 1 (.slice (some ⟨b, 0, none⟩) 1 1) ([4] : List Int).length (intCs [4]) :=
  ⟨rfl, Or.inr ⟨b, 1, #[.int .i64 4], rfl, Nat.zero_le _, h, Nat.le_refl _, by unfold maxLen; omega, rfl, rfl⟩⟩
theorem fre_ord {w w' : World} {o : Obj} (h : Below (w.drew.alloc o).heap.size (w.drew.alloc o) w') : Below w.heap.size w w' := ((Below.refl w.heap.size w).drew.alloc (Nat.le_refl _) o).trans (h.mono (by simp))
theorem diag_img (s : Sto) : (buildS s).1 = [] ↔ imgT (buildS s).2 ≠ [] := by
  have hi : (buildS s).2.img = if (buildS s).1 = [] then some (linkP ((buildS s).2.L.map funsOf)) else none := rfl
  unfold imgT
  rw [hi]
  by_cases h : (buildS s).1 = []
  · rw [if_pos h]; exact ⟨fun _ => imText_ne _, fun _ => h⟩
  · rw [if_neg h]; exact ⟨fun e => absurd e h, fun e => absurd rfl e⟩
set_option maxHeartbeats 6400000 in
theorem alike_any {w : World} {p q : SP} {s t : Sto} (T : Nat → List UInt8) (hs : StAt w p s) (ht : StAt w q t) (hd : ∀ k, p.own k → ¬ q.own k) (hpx : ∀ k, ¬ p.ex k) (hqx : ∀ k, ¬ q.ex k) (hMs : StM s) (hMt : StM t) (hT : Tab w) (h0 : ¬ p.own 0 ∧ ¬ q.own 0) (hS : InS T s.L) (hF : Full T t.L) :
    Calls Tryz.prog 31 #[.pointer (some ⟨p.sb, 0, none⟩), .pointer (some ⟨q.sb, 0, none⟩), .agg nms4, .agg (txs4 T)] w fun e w' => e = .returned (.bool true) ∧ ∃ s', StAt w' p s' ∧ StM s' ∧ InS T s'.L ∧ ButS (fun k => p.own k ∨ q.own k) w w' := by
  have hr := hs.rising
  have hrt := ht.rising
  have HD := hide hd
  have HPx := hide hpx
  have HQx := hide hqx
  have HFin := hide (remN_full hS hr)
  have HRi := hide (remN_rising T hr)
  have HMa := hide (fun j => remN_made (T := T) hMs j)
  have HMt := hide hMt
  have HFt := hide hF
  have HRt := hide hrt
  have HTb := hide hT
  have H0 := hide h0
  have hpo : ∀ k, p.own k → k < w.heap.size := fun k hk => hs.lt hk
  have hqo : ∀ k, q.own k → k < w.heap.size := fun k hk => ht.lt hk
  have HPo := hide hpo
  have HQo := hide hqo
  obtain ⟨W0, hW0⟩ : ∃ W0, W0 = (w.alloc (.cells nms4 64)).alloc (.cells (txs4 T) 64) := ⟨_, rfl⟩
  have hb0 : Below w.heap.size w W0 := by rw [hW0]; exact ((Below.refl _ _).alloc (Nat.le_refl _) _).alloc (by simp) _
  have HNb := hide (show W0.heap[w.heap.size]? = some (.cells nms4 64 (0, 0)) by rw [hW0]; exact block_alloc (block_new _ _) _)
  have HXb := hide (show W0.heap[w.heap.size + 1]? = some (.cells (txs4 T) 64 (0, 0)) by rw [hW0]; have := block_new (w.alloc (.cells nms4 64)) (.cells (txs4 T) 64); simpa using this)
  have HT2 := hide (show Two2 W0 p q (remN T s 0) t W0 from ⟨hs.below hb0, ht.below hb0, ButS.refl _ _⟩)
  have HB0 := hide hb0
  have HWs := hide (show W0.heap.size = w.heap.size + 2 by rw [hW0]; simp)
  have HW0 := hide hW0
  clear hs ht hd hpx hqx hMs hMt hT h0 hS hF hr hrt hpo hqo hb0
  go_enter Tryz.func31, Tryz.ntmps31
  go_wp2
  rw [← HW0.out]
  clear hW0 HW0
  go_loopw [9] (fun i wr => ∃ j : Nat, j ≤ 4 ∧ i = .int .i64 j ∧ Hid (Two2 W0 p q (remN T s j) t wr)) (fun i _ => 4 - (intOf i).toNat)
  case atStart => exact ⟨0, by omega, rfl, HT2⟩
  case round =>
    obtain ⟨j, hj, rfl, HTr⟩ := hrel
    have hrs := HTr.out.bu.size
    have hws := HWs.out
    have hn1 : ¬ (p.own w.heap.size ∨ q.own w.heap.size) := fun h => by rcases h with h | h; have := HPo.out _ h; omega; have := HQo.out _ h; omega
    have hn2 : ¬ (p.own (w.heap.size + 1) ∨ q.own (w.heap.size + 1)) := fun h => by rcases h with h | h; have := HPo.out _ h; omega; have := HQo.out _ h; omega
    have HNr := hide ((HTr.out.bu.block _ (by omega) hn1).trans HNb.out)
    have HXr := hide ((HTr.out.bu.block _ (by omega) hn2).trans HXb.out)
    clear hn1 hn2
    by_cases hlt : j < 4
    · have cn := nms_at HNr.out hlt
      have cx := txs_at HXr.out hlt
      have l1 := lt_of_some HNr.out
      have l2 := lt_of_some HXr.out
      have hj4 : (j : Int) < 4 := by omega
      by_cases hTj : T j = []
      · have HNx := hide (show remN T s (j + 1) = (remS (remN T s j) (nm4 j)).2 by simp [remN, hTj])
        rw [hTj] at cx
        simp only [List.toArray] at cx
        go_wp2_with fail
        refine (remove_any HTr.out.sp (nm4 j) (by rw [nm4_len]; omega)).mono ?_
        rintro e w1 ⟨rfl, hb1, hs1⟩
        have HT1 := hide (HTr.out.p HD.out HQx.out hb1 hs1)
        clear hb1 hs1
        go_wp2
        go_roundw
        case rel => exact ⟨j + 1, by omega, by go_num, by show Two2 _ _ _ _ _ _; rw [HNx.out]; exact HT1.out⟩
        case measure => simp [intOf]; omega
      · have HNx := hide (show remN T s (j + 1) = remN T s j by simp [remN, hTj])
        have hne : (T j == []) = false := by simpa using hTj
        go_wp2
        go_roundw
        case rel => exact ⟨j + 1, by omega, by go_num, by show Two2 _ _ _ _ _ _; rw [HNx.out]; exact HTr.out⟩
        case measure => simp [intOf]; omega
    · have hj4 : j = 4 := by omega
      subst hj4
      have HTd := hide HTr.out
      have hkp : ∀ k, k < w.heap.size → k < wr.heap.size := fun k hk => by omega
      have HM4 := hide (HMa.out 4)
      have HS4 := hide HTr.out.sp.small
      have HSt := hide HTr.out.sq.small
      have HSame := hide (build_same HTr.out.sp.small HTr.out.sq.small (HMa.out 4) HMt.out (HFin.out.same HFt.out (HRi.out 4) HRt.out))
      have HIs := hide (InS.build HFin.out.ins)
      have HMb := hide ((HMa.out 4).build HTr.out.sp.small)
      have HImS := hide (built_text HTr.out.sp.small (by have := HTr.out.sp.few.1; omega) (HMa.out 4))
      have HImT := hide (built_text HTr.out.sq.small (by have := HTr.out.sq.few.1; omega) HMt.out)
      have HOkS := hide (built_imOk HTr.out.sp.small (by have := HTr.out.sp.few.1; omega) (HMa.out 4))
      have HOkT := hide (built_imOk HTr.out.sq.small (by have := HTr.out.sq.few.1; omega) HMt.out)
      have HRun := hide (fun m n l fuel => run_is (HRi.out 4) HTr.out.sp.small (HMa.out 4) m n l fuel)
      have HDi := hide (show (buildS (remN T s 4)).1 = [] ↔ imgT (buildS (remN T s 4)).2 ≠ [] from diag_img _)
      generalize hS4 : remN T s 4 = s4 at *
      have HBs := hide (build_any HTr.out.sp HPx.out HM4.out)
      go_wp2_with fail
      refine HBs.out.mono ?_
      rintro e w1 ⟨dv1, rfl, hb1, hs1, hd1⟩
      have HT1 := hide (HTr.out.p HD.out HQx.out hb1 hs1)
      have HDv1 := hide hd1
      have HBt := hide (build_any HT1.out.sq HQx.out HMt.out)
      have hw1s := hb1.size
      obtain ⟨o1, c1, rfl⟩ := owns_shape' hd1
      clear hb1 hs1 hd1 HBs
      go_wp2_with fail
      refine HBt.out.mono ?_
      rintro e w2 ⟨dv2, rfl, hb2, ht2, hd2⟩
      have HT2' := hide (HT1.out.q HD.out HPx.out hb2 ht2)
      have HDv2 := hide hd2
      have HDk := hide (owns_keep HDv1.out fun g e => hb2.block g (owns_in HDv1.out g e).2 (fun hq => by have := HQo.out g hq; have := (owns_in HDv1.out g e).1; omega))
      obtain ⟨o2, c2, rfl⟩ := owns_shape' hd2
      have HTb2 := hide (show Tab w2 from (HTb.out.below HB0.out HTb.out.lt).keep (HT2'.out.bu.block 0 (by have := HTb.out.lt; omega) (fun h => h.elim H0.out.1 H0.out.2)))
      clear hb2 ht2 hd2 HBt HT1 HDv1
      have HDv3 := hide (show w2.ownsRow w1.heap.size 61 3 (.slice o2 (buildS s4).1.length c2) (buildS s4).1.length (dgCells (buildS s4).1) by have := HDv2.out; rw [← HSame.out.1] at this; exact this)
      have hdl : (buildS t).1.length = (buildS s4).1.length := by rw [HSame.out.1]
      have HIm := hide HSame.out.2.2
      have HIt := hide (show imgT (buildS t).2 = imgT (buildS s4).2 by unfold imgT; rw [HSame.out.2.2])
      have hdn : (buildS s4).1.length ≤ 8 := Nat.le_trans diagsL_len HTr.out.sp.few.1
      rw [hdl]
      clear hdl HDv2 HSame HTr HTd HM4 HS4 HSt HFin HFt HRt HMa HRi HT2
      generalize hR1 : (buildS s4).1 = d at *
      generalize hR2 : (buildS s4).2 = u at *
      generalize hR3 : (buildS t).2 = v at *
      clear hR1 hR2 hR3 hS4
      generalize hX : imgT u = X at *
      have HX := hide hX
      clear hX
      have hw2s := HT2'.out.bu.size
      go_upto_region 7 with fail
      go_cut [56] from 36 to 57 (fun s56 wx => s56 = .bool false ∧ Hid (Two2 W0 p q u v wx) ∧ Hid (Below w2.heap.size w2 wx))
      case first =>
        have h3 : ∀ W, Two2 W0 p q u v W → Tab W → Calls Tryz.prog 20 #[.pointer (some ⟨p.sb, 0, none⟩)] W fun e w' => e = .returned (.string ⟨X.toArray⟩) ∧ Below W.heap.size W w' := fun W hW hT => by have := image_any hW.sp HImS.out hT; rw [HX.out] at this; exact this
        have h4 : ∀ W, Two2 W0 p q u v W → Tab W → Calls Tryz.prog 20 #[.pointer (some ⟨q.sb, 0, none⟩)] W fun e w' => e = .returned (.string ⟨X.toArray⟩) ∧ Below W.heap.size W w' := fun W hW hT => by have := image_any hW.sq HImT.out hT; rw [HIt.out] at this; exact this
        have H3 := hide h3
        have H4 := hide h4
        clear h3 h4
        have hcase : (d.length = 0 ∧ (X == []) = false) ∨ (¬ d.length = 0 ∧ X = []) := by
          by_cases h : d = []
          · exact Or.inl ⟨by rw [h]; rfl, by have := HDi.out.1 h; simpa using this⟩
          · exact Or.inr ⟨fun e => h (List.eq_nil_of_length_eq_zero e), Classical.byContradiction fun e => h (HDi.out.2 e)⟩
        have ht0 := HTb2.out.lt
        generalize d.length = n at *
        rcases hcase with ⟨rfl, hXn⟩ | ⟨hn0, rfl⟩
        · go_wp2_with fail
          refine (H3.out _ HT2'.out HTb2.out).mono ?_
          rintro e w3 ⟨rfl, hb3⟩
          have HT3 := hide (HT2'.out.below hb3)
          have HTb3 := hide (HTb2.out.below hb3 ht0)
          have HB3 := hide hb3
          have hs3 := hb3.size
          clear hb3
          go_wp2_with fail
          refine (H4.out _ HT3.out HTb3.out).mono ?_
          rintro e w4 ⟨rfl, hb4⟩
          have HT4 := hide (HT3.out.below hb4)
          have HTb4 := hide (HTb3.out.below hb4 (by omega))
          have HB4 := hide (HB3.out.trans (hb4.mono hs3))
          have hs4 := hb4.size
          clear hb4
          go_wp2_with fail
          refine (H4.out _ HT4.out HTb4.out).mono ?_
          rintro e w5 ⟨rfl, hb5⟩
          have HT5 := hide (HT4.out.below hb5)
          have HB5 := hide (HB4.out.trans (hb5.mono (by omega)))
          clear hb5
          go_wp2
          go_meet
          case rel => exact ⟨rfl, HT5, HB5⟩
        · have hn1 : ¬ (n : Int) = 0 := by omega
          have hn2 : ((n : Int) == 0) = false := by simpa using hn1
          go_wp2_with fail
          refine (H3.out _ HT2'.out HTb2.out).mono ?_
          rintro e w3 ⟨rfl, hb3⟩
          have HT3 := hide (HT2'.out.below hb3)
          have HTb3 := hide (HTb2.out.below hb3 ht0)
          have HB3 := hide hb3
          have hs3 := hb3.size
          clear hb3
          go_wp2_with fail
          refine (H4.out _ HT3.out HTb3.out).mono ?_
          rintro e w4 ⟨rfl, hb4⟩
          have HT4 := hide (HT3.out.below hb4)
          have HTb4 := hide (HTb3.out.below hb4 (by omega))
          have HB4 := hide (HB3.out.trans (hb4.mono hs3))
          have hs4 := hb4.size
          clear hb4
          go_wp2_with fail
          refine (H4.out _ HT4.out HTb4.out).mono ?_
          rintro e w5 ⟨rfl, hb5⟩
          have HT5 := hide (HT4.out.below hb5)
          have HB5 := hide (HB4.out.trans (hb5.mono (by omega)))
          clear hb5
          go_wp2
          go_meet
          case rel => exact ⟨rfl, HT5, HB5⟩
      case rest =>
        obtain ⟨rfl, HTc, HBc⟩ := hcut
        have hwc := HBc.out.size
        clear HT2' HTb2 HDi HIt HImS HImT HX
        have HD1 := hide (owns_keep HDk.out fun g e => HBc.out.block g (owns_in HDk.out g e).2)
        have HD2 := hide (owns_keep HDv3.out fun g e => HBc.out.block g (owns_in HDv3.out g e).2)
        go_wp2
        go_loopw [12] (fun i wq => ∃ j : Nat, j ≤ d.length ∧ i = .int .i64 j ∧ Hid (Two2 W0 p q u v wq) ∧ Hid (Below wc.heap.size wc wq)) (fun i _ => d.length - (intOf i).toNat)
        case atStart => exact ⟨0, Nat.zero_le _, rfl, HTc, by show Below _ _ _; exact Below.refl _ _⟩
        case round =>
          obtain ⟨j, hj, rfl, HTq, HBq⟩ := hrel
          by_cases hlt : j < d.length
          · obtain ⟨g1, q1, cu1, hk1, _, hk3, hk4, _⟩ := owr_shape HD1.out (by omega)
            simp only [Value.slice.injEq] at hk1
            obtain ⟨rfl, _, rfl⟩ := hk1
            obtain ⟨g2, q2, cu2, hm1, _, hm3, hm4, _⟩ := owr_shape HD2.out (by omega)
            simp only [Value.slice.injEq] at hm1
            obtain ⟨rfl, _, rfl⟩ := hm1
            have hg1 := lt_of_some hk3
            have hg2 := lt_of_some hm3
            have hda := dgCells_at d j hlt
            have x0 := cellB HBq.out hg1 ((owns_cell HD1.out (j * 3) (by omega)).trans hda.1)
            have x1 := cellB HBq.out hg1 ((owns_cell HD1.out (j * 3 + 1) (by omega)).trans hda.2.1)
            have x2 := cellB HBq.out hg1 ((owns_cell HD1.out (j * 3 + 2) (by omega)).trans hda.2.2)
            have y0 := cellB HBq.out hg2 ((owns_cell HD2.out (j * 3) (by omega)).trans hda.1)
            have y1 := cellB HBq.out hg2 ((owns_cell HD2.out (j * 3 + 1) (by omega)).trans hda.2.1)
            have y2 := cellB HBq.out hg2 ((owns_cell HD2.out (j * 3 + 2) (by omega)).trans hda.2.2)
            have hqs := HBq.out.size
            have hg1q : g1 < wr.heap.size := by omega
            have hg2q : g2 < wr.heap.size := by omega
            have heq : ∀ W, (Op.equalIn 10000 61 (valD d[j]) (valD d[j])).run Tryz.prog W = .ok true W := fun W => by rw [equal_dg]; simp [sameD]
            unfold valD at heq
            have i1 : (0 : Int) ≤ (j : Int) := by omega
            have i2 : (j : Int) < (d.length : Int) := by omega
            generalize d[j] = y at *
            clear hda hk3 hk4 hm3 hm4
            go_wp2
            go_quiet (fail)
            go_wp2
            go_roundw
            case rel => exact ⟨j + 1, by omega, by go_num, by show Two2 _ _ _ _ _ _; exact HTq.out.below (below_drewN (Below.refl _ _) _), by show Below _ _ _; exact below_drewN HBq.out _⟩
            case measure => simp [intOf]; omega
          · have hje : j = d.length := by omega
            subst hje
            have HNq := hide (show wr.heap[w.heap.size]? = some (.cells nms4 64 (0, 0)) from (HTq.out.bu.block _ (by omega) (fun h => by rcases h with h | h; have := HPo.out _ h; omega; have := HQo.out _ h; omega)).trans HNb.out)
            obtain ⟨wz, hwz⟩ : ∃ x, x = wr := ⟨_, rfl⟩
            have HTz := hide (show Two2 W0 p q u v wz by rw [hwz]; exact HTq.out)
            have HNz := hide (show wz.heap[w.heap.size]? = some (.cells nms4 64 (0, 0)) by rw [hwz]; exact HNq.out)
            rw [← hwz]
            clear hwz HTq HNq HBq HD1 HD2 HTc HBc HDk HDv3 hj hlt
            go_wp2
            go_loopw [13] (fun i wq => ∃ a : Nat, a ≤ 4 ∧ i = .int .i64 a ∧ Hid (Two2 W0 p q u v wq) ∧ Hid (Below wz.heap.size wz wq)) (fun i _ => 4 - (intOf i).toNat)
            case atStart => exact ⟨0, by omega, rfl, HTz, by show Below _ _ _; exact Below.refl _ _⟩
            case round =>
              obtain ⟨a, ha, rfl, HTa, HBa⟩ := hrel
              by_cases hlt : a < 4
              · have ha4 : (a : Int) < 4 := by omega
                have ha0 : (0 : Int) ≤ (a : Int) := by omega
                go_wp2
                go_loopw [14] (fun i wq => ∃ f : Nat, f ≤ 3 ∧ i = .int .i64 f ∧ Hid (Two2 W0 p q u v wq) ∧ Hid (Below wz.heap.size wz wq)) (fun i _ => 3 - (intOf i).toNat)
                case atStart => exact ⟨0, by omega, rfl, HTa, HBa⟩
                case round =>
                  obtain ⟨f, hf, rfl, HTf, HBf⟩ := hrel
                  by_cases hlf : f < 3
                  · have hf3 : (f : Int) < 3 := by omega
                    have HNf := hide ((HBf.out.block _ (lt_of_some HNz.out)).trans HNz.out)
                    have cn := nms_at HNf.out hlt
                    have ln := lt_of_some HNf.out
                    obtain ⟨R, hR⟩ := HRun.out (nm4 a) (nameF f) [4] 50
                    have HR := hide hR
                    have HR2 := hide (RunIs.img HIm.out hR)
                    clear hR
                    go_wp2
                    have hne := World.new_ne wr _ cn
                    go_cut [15, 16] from 80 to 91 (fun sa sb wx => sa = .int .i64 R.1 ∧ sb = .int .i64 (R.2 : Int) ∧ Hid (Two2 W0 p q u v wx) ∧ Hid (Below wz.heap.size wz wx))
                    case first =>
                      go_region_held3 (fun w' => w'.cell? ⟨w.heap.size, a, none⟩ = some (.string ⟨(nm4 a).toArray⟩)) (go_keep)
                        (first
                          | (go_at_call 27; refine (name_fany f wr.drew (by omega)).mono ?_; rintro e w5 ⟨rfl, hb5⟩; have HB5 := hide (below_undrew hb5); have k5 := cellB (w := wr.drew) hb5 ln cn; have ks5 := World.new_ne w5 _ k5; clear hb5)
                          | (go_at_call 27; refine (name_fany f (wr.drew.alloc (.cells #[.int .i64 4] 3)) (by omega)).mono ?_; rintro e w6 ⟨rfl, hb6⟩; have HB6 := hide hb6; have k6 := cellB hb6 (show w.heap.size < (wr.drew.alloc (.cells #[.int .i64 4] 3)).heap.size by simp; omega) (show (wr.drew.alloc (.cells #[.int .i64 4] 3)).cell? ⟨w.heap.size, a, none⟩ = _ from (below_cell ((Below.refl _ wr.drew).alloc (Nat.le_refl _) _) ln a).trans cn); clear hb6)
                          | (go_at_call 19; refine (run_any (s := u) (p := p) (HTf.out.below (HB5.out.alloc HB5.out.size (.cells #[.int .i64 4] 3))).sp HOkS.out (nm4 a) (nameF f) _ [4] (row4 (block_new w5 _)) (by decide) 50 R HR.out).mono ?_; rintro e w7 ⟨rfl, hb7⟩; have HB7 := hide ((HB5.out.alloc HB5.out.size (.cells #[.int .i64 4] 3)).trans (hb7.mono (by have := HB5.out.size; simp; omega))); have k7 := cellB HB7.out ln cn; clear hb7)
                          | (go_at_call 19; refine (run_any (s := u) (p := p) (HTf.out.below (fre_ord HB6.out)).sp HOkS.out (nm4 a) (nameF f) _ [4] (row4 ((HB6.out.block wr.heap.size (by simp)).trans (block_new wr.drew _))) (by decide) 50 R HR.out).mono ?_; rintro e w7 ⟨rfl, hb7⟩; have HB7 := hide ((fre_ord HB6.out).trans (hb7.mono (fre_ord HB6.out).size)); have k7 := cellB HB7.out ln cn; clear hb7))
                      all_goals
                        go_wp2
                        go_meet
                        case rel => exact ⟨rfl, rfl, by show Two2 _ _ _ _ _ _; exact HTf.out.below HB7.out, by show Below _ _ _; exact HBf.out.trans (HB7.out.mono HBf.out.size)⟩
                    case rest =>
                      obtain ⟨rfl, rfl, HTg, HBg⟩ := hcut
                      have cn := nms_at ((HBg.out.block _ (lt_of_some HNz.out)).trans HNz.out) hlt
                      have ln : w.heap.size < wc.heap.size := by have := HBg.out.size; have := lt_of_some HNz.out; omega
                      have hne := World.new_ne wc _ cn
                      go_wp2
                      go_cut [17, 18] from 91 to 102 (fun sa sb wx => sa = .int .i64 R.1 ∧ sb = .int .i64 (R.2 : Int) ∧ Hid (Two2 W0 p q u v wx) ∧ Hid (Below wz.heap.size wz wx))
                      case first =>
                        go_region_held3 (fun w' => w'.cell? ⟨w.heap.size, a, none⟩ = some (.string ⟨(nm4 a).toArray⟩)) (go_keep)
                          (first
                            | (go_at_call 27; refine (name_fany f wc.drew (by omega)).mono ?_; rintro e w5 ⟨rfl, hb5⟩; have HB5 := hide (below_undrew hb5); have k5 := cellB (w := wc.drew) hb5 ln cn; have ks5 := World.new_ne w5 _ k5; clear hb5)
                            | (go_at_call 27; refine (name_fany f (wc.drew.alloc (.cells #[.int .i64 4] 3)) (by omega)).mono ?_; rintro e w6 ⟨rfl, hb6⟩; have HB6 := hide hb6; have k6 := cellB hb6 (show w.heap.size < (wc.drew.alloc (.cells #[.int .i64 4] 3)).heap.size by simp; omega) (show (wc.drew.alloc (.cells #[.int .i64 4] 3)).cell? ⟨w.heap.size, a, none⟩ = _ from (below_cell ((Below.refl _ wc.drew).alloc (Nat.le_refl _) _) ln a).trans cn); clear hb6)
                            | (go_at_call 19; refine (run_any (s := v) (p := q) (HTg.out.below (HB5.out.alloc HB5.out.size (.cells #[.int .i64 4] 3))).sq HOkT.out (nm4 a) (nameF f) _ [4] (row4 (block_new w5 _)) (by decide) 50 R HR2.out).mono ?_; rintro e w7 ⟨rfl, hb7⟩; have HB7 := hide ((HB5.out.alloc HB5.out.size (.cells #[.int .i64 4] 3)).trans (hb7.mono (by have := HB5.out.size; simp; omega))); have k7 := cellB HB7.out ln cn; clear hb7)
                            | (go_at_call 19; refine (run_any (s := v) (p := q) (HTg.out.below (fre_ord HB6.out)).sq HOkT.out (nm4 a) (nameF f) _ [4] (row4 ((HB6.out.block wc.heap.size (by simp)).trans (block_new wc.drew _))) (by decide) 50 R HR2.out).mono ?_; rintro e w7 ⟨rfl, hb7⟩; have HB7 := hide ((fre_ord HB6.out).trans (hb7.mono (fre_ord HB6.out).size)); have k7 := cellB HB7.out ln cn; clear hb7))
                        all_goals
                          go_wp2
                          go_meet
                          case rel => exact ⟨rfl, rfl, by show Two2 _ _ _ _ _ _; exact HTg.out.below HB7.out, by show Below _ _ _; exact HBg.out.trans (HB7.out.mono HBg.out.size)⟩
                      case rest =>
                        obtain ⟨rfl, rfl, HTh, HBh⟩ := hcut
                        go_wp2
                        go_roundw
                        case rel => exact ⟨f + 1, by omega, by go_num, HTh, HBh⟩
                        case measure => simp [intOf]; omega
                  · have hfe : f = 3 := by omega
                    subst hfe
                    go_wp2
                    go_roundw
                    case rel => exact ⟨a + 1, by omega, by go_num, HTf, HBf⟩
                    case measure => simp [intOf]; omega
              · have hae : a = 4 := by omega
                subst hae
                go_wp2
                go_ret
                exact ⟨rfl, u, HTa.out.sp, HMb.out, HIs.out, (ButS.of_below HB0.out).trans (HTa.out.bu)⟩
end Go.Proofs.YtpmmjkiclngpmaaGreatDoor

/- What Fresh keeps from round to round; its dice; its texts. -/
namespace Go.Proofs.YtpmmjkiclngpmaaGreatDoor
open Go.RowKit

/-- Where things lie: the store, the dice, the names, the texts: all new, none another. -/
structure Fs (w : World) (D : Dp) (p : SP) (nb tb : Nat) : Prop where
  own : ∀ k, p.own k → w.heap.size ≤ k ∧ k ≠ nb ∧ k ≠ tb ∧ k ≠ D.xb
  ex : ∀ k, ¬ p.ex k
  nl : w.heap.size ≤ nb
  tl : w.heap.size ≤ tb
  xl : w.heap.size ≤ D.xb
  nt : nb ≠ tb
  nx : nb ≠ D.xb
  tx : tb ≠ D.xb
  old : D.b < w.heap.size
structure Fq (w : World) (D : Dp) (p : SP) (nb tb : Nat) (T : Nat → List UInt8) (s : Sto) (wr : World) : Prop where
  st : StAt wr p s
  nbk : wr.heap[nb]? = some (.cells nms4 64 (0, 0))
  tbk : wr.heap[tb]? = some (.cells (txs4 T) 64 (0, 0))
  dc : ∃ i, Dc D i wr
  bel : Below w.heap.size w wr
section
variable {w : World} {D : Dp} {p : SP} {nb tb : Nat} {T : Nat → List UInt8} {s s' : Sto} {wr w' : World}
theorem Fq.below (h : Fq w D p nb tb T s wr) (hb : Below wr.heap.size wr w') : Fq w D p nb tb T s w' := by
  obtain ⟨i, hi⟩ := h.dc
  exact ⟨h.st.below hb, (hb.block _ (lt_of_some h.nbk)).trans h.nbk, (hb.block _ (lt_of_some h.tbk)).trans h.tbk, ⟨i, hi.below hb⟩, h.bel.trans (hb.mono h.bel.size)⟩
theorem Fq.dice (h : Fq w D p nb tb T s wr) (S : Fs w D p nb tb) (hb : But D.xb wr w') {i : Nat} (hd : Dc D i w') : Fq w D p nb tb T s w' := by
  obtain ⟨i0, h0⟩ := h.dc
  have hB : ButS (fun k => k = D.xb) wr w' := ⟨hb.os, hb.tape, hb.output, hb.size, hb.block⟩
  refine ⟨h.st.skip (X := fun k => k = D.xb) (fun k e => by subst e; exact NoRow.cells h0.blk (by unfold RowT; decide)) (fun k hk e => (S.own k hk).2.2.2 e) S.ex hB, (hb.block _ (lt_of_some h.nbk) S.nx).trans h.nbk, (hb.block _ (lt_of_some h.tbk) S.tx).trans h.tbk, ⟨i, hd⟩, ?_⟩
  exact ⟨hb.os.trans h.bel.os, hb.tape.trans h.bel.tape, hb.output.trans h.bel.output, Nat.le_trans h.bel.size hb.size, fun k hk => (hb.block k (by have := h.bel.size; omega) (by have := S.xl; omega)).trans (h.bel.block k hk)⟩
/-- Blocks are turned that are none of these. -/
theorem Fq.store (h : Fq w D p nb tb T s wr) (S : Fs w D p nb tb) {X : Nat → Prop} (hX : ∀ k, X k → w.heap.size ≤ k ∧ k ≠ nb ∧ k ≠ tb ∧ k ≠ D.xb) (hb : ButS X wr w') (hs : StAt w' p s') : Fq w D p nb tb T s' w' := by
  obtain ⟨i, hi⟩ := h.dc
  have hx := lt_of_some hi.blk
  refine ⟨hs, (hb.block _ (lt_of_some h.nbk) fun q => (hX _ q).2.1 rfl).trans h.nbk, (hb.block _ (lt_of_some h.tbk) fun q => (hX _ q).2.2.1 rfl).trans h.tbk, ⟨i, ?_⟩, ?_⟩
  · have hob : ¬ X D.b := fun q => by have := (hX _ q).1; have := S.old; omega
    have hbl : D.b < wr.heap.size := by have := S.old; have := h.bel.size; omega
    exact ⟨(hb.block _ hx fun q => (hX _ q).2.2.2 rfl).trans hi.blk, fun j hj => (World.cell?_of_block (a := ⟨D.b, D.off + j, none⟩) (hb.block D.b hbl hob)).trans (hi.cells j hj), hi.addr, hi.ne, hi.old, hi.wf, hi.le, hi.len⟩
  · exact ⟨hb.os.trans h.bel.os, hb.tape.trans h.bel.tape, hb.output.trans h.bel.output, Nat.le_trans h.bel.size hb.size, fun k hk' => (hb.block k (by have := h.bel.size; omega) fun q => by have := (hX k q).1; omega).trans (h.bel.block k hk')⟩
theorem Fq.text (h : Fq w D p nb tb T s wr) (S : Fs w D p nb tb) {k : Nat} (hk : k < 4) (t : List UInt8) : Fq w D p nb tb (fun i => if i = k then t else T i) s (wr.setCell ⟨tb, k, none⟩ (.string ⟨t.toArray⟩)) := by
  obtain ⟨i, hi⟩ := h.dc
  have hB : ButS (fun k => k = tb) wr (wr.setCell ⟨tb, k, none⟩ (.string ⟨t.toArray⟩)) := ButS.set (T := fun k => k = tb) (ButS.refl _ wr) (Or.inl rfl) _ _
  refine ⟨h.st.skip (X := fun k => k = tb) (fun k e => by subst e; exact NoRow.cells h.tbk (by unfold RowT; decide)) (fun k hk e => (S.own k hk).2.2.1 e) S.ex hB, (hB.block _ (lt_of_some h.nbk) S.nt).trans h.nbk, ?_, ⟨i, ?_⟩, ?_⟩
  · rw [block_setCell h.tbk k _]
    rcases four hk with rfl | rfl | rfl | rfl <;> rfl
  · have hbl : D.b < wr.heap.size := by have := S.old; have := h.bel.size; omega
    have hbt : ¬ D.b = tb := by have := S.old; have := S.tl; omega
    exact ⟨(hB.block _ (lt_of_some hi.blk) (fun e => S.tx e.symm)).trans hi.blk, fun j hj => (World.cell?_of_block (a := ⟨D.b, D.off + j, none⟩) (hB.block D.b hbl hbt)).trans (hi.cells j hj), hi.addr, hi.ne, hi.old, hi.wf, hi.le, hi.len⟩
  · exact ⟨hB.os.trans h.bel.os, hB.tape.trans h.bel.tape, hB.output.trans h.bel.output, Nat.le_trans h.bel.size hB.size, fun k' hk' => (hB.block k' (by have := h.bel.size; omega) (by have := S.tl; omega)).trans (h.bel.block k' hk')⟩
theorem next_fq (S : Fs w D p nb tb) (h : Fq w D p nb tb T s wr) (n : Nat) (m : Int) (hm : m = (n : Int)) (hn : 0 < n) (hn2 : n ≤ 1000) :
    Calls Tryz.prog 22 #[.pointer (some ⟨D.xb, 0, none⟩), .int .i64 m] wr fun e w' => ∃ k : Nat, k < n ∧ e = .returned (.int .i64 k) ∧ Fq w D p nb tb T s w' ∧ But D.xb wr w' := by
  obtain ⟨i, hi⟩ := h.dc
  subst hm
  refine (next_any D i wr hi n (by omega) (by omega)).mono ?_
  rintro e w' ⟨rfl, hb, hd⟩
  have hv : ∃ k : Nat, k < n ∧ (nextB D.zs i n).1 = (k : Int) := by
    unfold nextB
    split
    · exact ⟨0, hn, rfl⟩
    · next z hz =>
      have := pickB_bd z n (by omega)
      exact ⟨(pickB z n).toNat, by omega, by show pickB z n = _; omega⟩
  obtain ⟨k, hk, e⟩ := hv
  exact ⟨k, hk, by rw [e], h.dice S hb hd, hb⟩
theorem text_fq (h : Fq w D p nb tb T s wr) (k : Nat) (hk : k < 10) : Calls Tryz.prog 29 #[.int .i64 k] wr fun e w' => e = .returned (.string ⟨#[digitB k]⟩) ∧ Fq w D p nb tb T s w' ∧ Below wr.heap.size wr w' := by
  have := text_any k wr (by omega)
  rw [textB_small k hk] at this
  exact this.mono (by rintro e w' ⟨rfl, hb⟩; exact ⟨rfl, h.below hb, hb⟩)
theorem Fq.cell (h : Fq w D p nb tb T s wr) {k : Nat} (hk : k < 4) : wr.cell? ⟨nb, k, none⟩ = some (.string ⟨(nm4 k).toArray⟩) ∧ wr.cell? ⟨tb, k, none⟩ = some (.string ⟨(T k).toArray⟩) ∧ nb < wr.heap.size ∧ tb < wr.heap.size :=
  ⟨nms_at h.nbk hk, txs_at h.tbk hk, lt_of_some h.nbk, lt_of_some h.tbk⟩
end
/-- A new store into which the texts from c on are set. -/
structure Part (T : Nat → List UInt8) (c : Nat) (L : List Md) : Prop where
  ins : InS (fun i => if c ≤ i then T i else []) L
  has : ∀ i, i < 4 → (nm4 i ∈ names L ↔ c ≤ i ∧ T i ≠ [])
theorem Part.zero (T : Nat → List UInt8) : Part T 4 [] := ⟨⟨fun m hm => (by cases hm), fun i hi => (by rw [if_neg (by omega)]; rfl)⟩, fun i hi => ⟨fun h => (by simp [names] at h), fun h => by omega⟩⟩
theorem Part.full {T : Nat → List UInt8} {L : List Md} (h : Part T 0 L) : Full T L := ⟨⟨h.ins.nam, fun i hi => by rw [h.ins.now i hi, if_pos (Nat.zero_le _)]⟩, fun i hi => by rw [h.has i hi]; simp⟩
theorem Part.none {T : Nat → List UInt8} {c : Nat} {L : List Md} (h : Part T (c + 1) L) (hT : T c = []) : Part T c L := by
  refine ⟨⟨h.ins.nam, fun i hi => ?_⟩, fun i hi => ?_⟩
  · rw [h.ins.now i hi]
    by_cases e : i = c
    · subst e; rw [if_neg (by omega), if_pos (Nat.le_refl _), hT]
    · by_cases q : c ≤ i
      · rw [if_pos (by omega), if_pos q]
      · rw [if_neg (by omega), if_neg q]
  · rw [h.has i hi]
    constructor
    · rintro ⟨a, b⟩; exact ⟨by omega, b⟩
    · rintro ⟨a, b⟩
      refine ⟨?_, b⟩
      rcases Nat.lt_or_ge c i with q | q
      · omega
      · have : i = c := by omega
        subst this; exact absurd hT b
theorem Part.set {T : Nat → List UInt8} {c : Nat} (hc : c < 4) {s : Sto} (h : Part T (c + 1) s.L) (hr : Rising (names s.L)) (hl : (T c).length ≤ 600) (hT : T c ≠ []) : (setS s (nm4 c) (T c)).1 = 0 ∧ Part T c (setS s (nm4 c) (T c)).2.L ∧ Rising (names (setS s (nm4 c) (T c)).2.L) := by
  obtain ⟨a, b, d, e⟩ := h.ins.set hr hc hl
  refine ⟨a, ⟨⟨d.nam, fun i hi => ?_⟩, fun i hi => ?_⟩, e⟩
  · rw [d.now i hi]
    by_cases q : i = c
    · subst q; rw [if_pos rfl, if_pos (Nat.le_refl _)]
    · rw [if_neg q]
      by_cases r : c ≤ i
      · rw [if_pos (by omega), if_pos r]
      · rw [if_neg (by omega), if_neg r]
  · rw [b, names_setM hr, mem_putB, h.has i hi]
    constructor
    · rintro (q | ⟨q1, q2⟩)
      · have := nm4_inj hi hc q; subst this; exact ⟨Nat.le_refl _, hT⟩
      · exact ⟨by omega, q2⟩
    · rintro ⟨q1, q2⟩
      by_cases r : i = c
      · exact Or.inl (by rw [r])
      · exact Or.inr ⟨by omega, q2⟩
theorem beg_rem : (remS begS5 [109]).1 = 0 ∧ (remS begS5 [109]).2.L = [] := ⟨by kernel_rfl, by kernel_rfl⟩
end Go.Proofs.YtpmmjkiclngpmaaGreatDoor

/- The contract of Fresh. -/
namespace Go.Proofs.YtpmmjkiclngpmaaGreatDoor
open Go.RowKit

theorem bsz (a : Array UInt8) : (ByteArray.mk a).size = a.size := rfl
theorem sizes_if {T : Nat → List UInt8} {k : Nat} {t : List UInt8} (h : ∀ i, i < 4 → (T i).length ≤ 600) (ht : t.length ≤ 600) : ∀ i, i < 4 → (if i = k then t else T i).length ≤ 600 := fun i hi => by
  split
  · exact ht
  · exact h i hi
set_option maxHeartbeats 12800000 in
theorem fresh_any (w : World) (ao : Option Addr) (b off cap : Nat) (zs : List Int) (hc : ∀ j, (h : j < zs.length) → w.cell? ⟨b, off + j, none⟩ = some (.int .i64 zs[j])) (ha : ao = some ⟨b, off, none⟩ ∨ zs = []) (hbw : b < w.heap.size)
    (hwf : ∀ z ∈ zs, -9223372036854775808 ≤ z ∧ z ≤ 9223372036854775807) (hlen : zs.length ≤ 140737488355328) (hT : Tab w) :
    Calls Tryz.prog 11 #[.slice ao zs.length cap] w fun e w' => e = .returned (.bool true) ∧ Below w.heap.size w w' := by
  have HBg := hide (began_any w)
  have HC := hide hc
  have HA := hide ha
  have HWf := hide hwf
  have HTb := hide hT
  clear hc ha hwf hT
  go_enter Tryz.func11, Tryz.ntmps11
  go_wp2_with fail
  refine HBg.out.mono ?_
  rintro e w1 ⟨p, rfl, hg⟩
  have HG := hide hg
  have hs1 := hg.bel.size
  clear hg
  obtain ⟨W, hW⟩ : ∃ W, W = ((w1.alloc (.cells #[.slice ao zs.length cap, .int .i64 0] 30)).alloc (.cells nms4 64)).alloc (.cells (txs4 fun _ => []) 64) := ⟨_, rfl⟩
  have hb3 : Below w1.heap.size w1 W := by rw [hW]; exact (((Below.refl _ _).alloc (Nat.le_refl _) _).alloc (by simp) _).alloc (by simp; omega) _
  have hd3 : W.heap[w1.heap.size]? = some (.cells #[.slice ao zs.length cap, .int .i64 0] 30 (0, 0)) := by rw [hW]; exact block_alloc (block_alloc (block_new _ _) _) _
  have hn3 : W.heap[w1.heap.size + 1]? = some (.cells nms4 64 (0, 0)) := by
    rw [hW]
    have := block_new (w1.alloc (.cells #[.slice ao zs.length cap, .int .i64 0] 30)) (.cells nms4 64)
    refine block_alloc ?_ _
    simpa using this
  have ht3 : W.heap[w1.heap.size + 1 + 1]? = some (.cells (txs4 fun _ => []) 64 (0, 0)) := by
    rw [hW]
    have := block_new ((w1.alloc (.cells #[.slice ao zs.length cap, .int .i64 0] 30)).alloc (.cells nms4 64)) (.cells (txs4 fun _ => []) 64)
    simpa using this
  have hst := HG.out.st
  have hlt1 : ∀ k, p.own k → k < w1.heap.size := fun k hk => hst.lt hk
  have HS := hide (show Fs w ⟨w1.heap.size, ao, b, off, cap, zs⟩ p (w1.heap.size + 1) (w1.heap.size + 1 + 1) from
    ⟨fun k hk => by have h1 := HG.out.own k hk; have h2 := hlt1 k hk; exact ⟨h1, by omega, by omega, by show k ≠ w1.heap.size; omega⟩, HG.out.ex, by omega, by omega, hs1, by omega, by show w1.heap.size + 1 ≠ w1.heap.size; omega, by show w1.heap.size + 1 + 1 ≠ w1.heap.size; omega, hbw⟩)
  have HF0 := hide (show Fq w ⟨w1.heap.size, ao, b, off, cap, zs⟩ p (w1.heap.size + 1) (w1.heap.size + 1 + 1) (fun _ => []) begS5 W from
    ⟨hst.below hb3, hn3, ht3, ⟨0, hd3, fun j hj => (below_cell (HG.out.bel.trans (hb3.mono hs1)) hbw (off + j)).trans (HC.out j hj), HA.out, by show b ≠ w1.heap.size; omega, by show b < w1.heap.size; omega, HWf.out, Nat.zero_le _, hlen⟩, HG.out.bel.trans (hb3.mono hs1)⟩)
  have HW := hide hW
  clear hb3 hd3 hn3 ht3 hst hlt1
  go_wp2_with fail
  have HRm := hide (remove_any HF0.out.st [109] (by simp))
  refine (show Calls Tryz.prog 28 #[.pointer (some ⟨p.sb, 0, none⟩), .string ⟨#[109]⟩] W _ from HRm.out).mono ?_ |> (fun h => by rw [HW.out] at h; exact h)
  rintro e w2 ⟨rfl, hb2, hs2⟩
  have HFr := hide (HF0.out.store HS.out HS.out.own hb2 hs2)
  have hr0 := beg_rem.1
  have HL0 := hide beg_rem.2
  have HM0 := hide (beg_m5.rem [109])
  rw [hr0]
  clear hb2 hs2 hr0 HF0 hW HW HRm HC HA HWf
  generalize (remS begS5 [109]).2 = s0 at *
  generalize w1.heap.size + 1 + 1 = tb at *
  generalize w1.heap.size + 1 = nb at *
  generalize w1.heap.size = xb at *
  go_wp2
  generalize hDD : (⟨xb, ao, b, off, cap, zs⟩ : Dp) = D at *
  have hDx : D.xb = xb := by rw [← hDD]
  rw [← hDx]
  clear hDD hDx HBg HG
  go_loopw [8] (fun i wr => ∃ (c : Nat) (T : Nat → List UInt8) (s : Sto), c ≤ 20 ∧ i = .int .i64 c ∧ Hid (Fq w D p nb tb T s wr) ∧ Hid (StM s) ∧ Hid (InS T s.L) ∧ Hid (∀ i, i < 4 → (T i).length ≤ 600)) (fun i _ => 20 - (intOf i).toNat)
  case atStart => exact ⟨0, fun _ => [], s0, by omega, rfl, HFr, HM0, by show InS _ _; rw [HL0.out]; exact ⟨fun m hm => (by cases hm), fun i hi => rfl⟩, by show ∀ i, i < 4 → ([] : List UInt8).length ≤ 600; intro i _; simp⟩
  case round =>
    obtain ⟨c, T, s, hc, rfl, HF, HM, HI, HLn⟩ := hrel
    by_cases hlt : c < 20
    · have hc20 : (c : Int) < 20 := by omega
      go_wp2_with fail
      refine (next_fq HS.out HF.out 4 _ rfl (by omega) (by omega)).mono ?_
      rintro e w3 ⟨k, hk, rfl, hF3, _⟩
      have HF3 := hide hF3
      clear hF3
      go_wp2_with fail
      refine (next_fq HS.out HF3.out 3 _ rfl (by omega) (by omega)).mono ?_
      rintro e w4 ⟨u0, hu0, rfl, hF4, _⟩
      have HF4 := hide hF4
      clear hF4 HF3
      go_wp2
      go_loopw [10, 11] (fun t u wq => ∃ (bt : ByteArray) (m : Nat), m ≤ 2 ∧ t = .string bt ∧ u = .int .i64 m ∧ bt.size + 7 * m ≤ 14 ∧ Hid (Fq w D p nb tb T s wq)) (fun _ u _ => (intOf u).toNat)
      case atStart => exact ⟨⟨#[]⟩, u0, by omega, rfl, rfl, by show 0 + 7 * u0 ≤ 14; omega, HF4⟩
      case round =>
        obtain ⟨bt, m, hm, rfl, rfl, hbt, HFq⟩ := hrel
        by_cases hm0 : 0 < m
        · obtain ⟨m', rfl⟩ : ∃ m', m = m' + 1 := ⟨m - 1, by omega⟩
          have hmi : (0 : Int) < ((m' + 1 : Nat) : Int) := by omega
          go_wp2_with fail
          refine (next_fq HS.out HFq.out 4 _ rfl (by omega) (by omega)).mono ?_
          rintro e w5 ⟨k5, hk5, rfl, hF5, _⟩
          have HF5 := hide hF5
          obtain ⟨c5, _, l5, _⟩ := hF5.cell hk5
          have n5 := nm4_len k5
          have hk50 : (0 : Int) ≤ (k5 : Int) := by omega
          have hk54 : (k5 : Int) < 4 := by omega
          clear hF5
          go_wp2
          go_roundw
          case rel => exact ⟨_, m', by omega, rfl, by go_num, by simp only [ByteArray.size_append, bsz, List.size_toArray, n5]; simp; omega, HF5⟩
          case measure => (simp [intOf]; try omega)
        · have hm00 : m = 0 := by omega
          subst hm00
          go_wp2_with fail
          refine (next_fq HS.out HFq.out 4 _ rfl (by omega) (by omega)).mono ?_
          rintro e w5 ⟨f0, hf0, rfl, hF5, _⟩
          have HF5 := hide hF5
          clear hF5 HF4 HFq
          go_wp2
          go_loopw [10, 12] (fun t u wq => ∃ (bu : ByteArray) (m : Nat), m ≤ 3 ∧ t = .string bu ∧ u = .int .i64 m ∧ bu.size + 70 * m ≤ 224 ∧ Hid (Fq w D p nb tb T s wq)) (fun _ u _ => (intOf u).toNat)
          case atStart => exact ⟨bt, f0, by omega, rfl, rfl, by omega, HF5⟩
          case round =>
            obtain ⟨bu, m, hm, rfl, rfl, hbu, HFq⟩ := hrel
            by_cases hm0 : 0 < m
            · obtain ⟨m', rfl⟩ : ∃ m', m = m' + 1 := ⟨m - 1, by omega⟩
              have hmi : (0 : Int) < ((m' + 1 : Nat) : Int) := by omega
              go_wp2_with fail
              refine (next_fq HS.out HFq.out 3 _ rfl (by omega) (by omega)).mono ?_
              rintro e w6 ⟨k6, hk6, rfl, hF6, _⟩
              have HF6 := hide hF6
              clear hF6
              by_cases h6 : 0 < k6
              · have h6i : (0 : Int) < (k6 : Int) := by omega
                go_wp2_with fail
                refine (next_fq HS.out (HF6.out.below ((Below.refl _ _).alloc (Nat.le_refl _) _)) 2 _ rfl (by omega) (by omega)).mono ?_
                rintro e w7 ⟨k7, hk7, rfl, hF7, hb7⟩
                have HF7 := hide hF7
                have hxl : D.xb < w6.heap.size := by obtain ⟨_, hd⟩ := HF6.out.dc; exact lt_of_some hd.blk
                have hbk := (hb7.block w6.heap.size (by simp) (by omega)).trans (block_new w6 _)
                have z0 := cell_block hbk 0
                have z1 := cell_block hbk 1
                have zl := lt_of_some hbk
                simp at z0 z1
                clear hF7 hb7 hbk
                have hk2 : k7 = 0 ∨ k7 = 1 := by omega
                rcases hk2 with rfl | rfl
                · go_wp2_with fail
                  refine (next_fq HS.out HF7.out 3 _ rfl (by omega) (by omega)).mono ?_
                  rintro e w8 ⟨k8, hk8, rfl, hF8, _⟩
                  have HF8 := hide hF8
                  clear hF8
                  go_wp2_with fail
                  refine (text_fq HF8.out k8 (by omega)).mono ?_
                  rintro e w9 ⟨rfl, hF9, _⟩
                  have HF9 := hide hF9
                  clear hF9
                  go_wp2_with fail
                  refine (next_fq HS.out HF9.out 3 _ rfl (by omega) (by omega)).mono ?_
                  rintro e wa ⟨ka, hka, rfl, hFa, _⟩
                  have HFa := hide hFa
                  clear hFa
                  go_wp2_with fail
                  refine (text_fq HFa.out ka (by omega)).mono ?_
                  rintro e wb ⟨rfl, hFb, _⟩
                  have HFb := hide hFb
                  clear hFb
                  go_wp2
                  go_roundw
                  case rel => exact ⟨_, m', by omega, rfl, by go_num, by simp only [ByteArray.size_append, bsz]; simp; omega, HFb⟩
                  case measure => (simp [intOf]; try omega)
                · go_wp2_with fail
                  refine (next_fq HS.out HF7.out 3 _ rfl (by omega) (by omega)).mono ?_
                  rintro e w8 ⟨k8, hk8, rfl, hF8, _⟩
                  have HF8 := hide hF8
                  clear hF8
                  go_wp2_with fail
                  refine (text_fq HF8.out k8 (by omega)).mono ?_
                  rintro e w9 ⟨rfl, hF9, _⟩
                  have HF9 := hide hF9
                  clear hF9
                  go_wp2_with fail
                  refine (next_fq HS.out HF9.out 3 _ rfl (by omega) (by omega)).mono ?_
                  rintro e wa ⟨ka, hka, rfl, hFa, _⟩
                  have HFa := hide hFa
                  clear hFa
                  go_wp2_with fail
                  refine (text_fq HFa.out ka (by omega)).mono ?_
                  rintro e wb ⟨rfl, hFb, _⟩
                  have HFb := hide hFb
                  clear hFb
                  go_wp2
                  go_roundw
                  case rel => exact ⟨_, m', by omega, rfl, by go_num, by simp only [ByteArray.size_append, bsz]; simp; omega, HFb⟩
                  case measure => (simp [intOf]; try omega)
              · have h6i : k6 = 0 := by omega
                subst h6i
                go_wp2_with fail
                refine (next_fq HS.out (HF6.out.below ((Below.refl _ _).alloc (Nat.le_refl _) _)) 2 _ rfl (by omega) (by omega)).mono ?_
                rintro e w7 ⟨k7, hk7, rfl, hF7, hb7⟩
                have HF7 := hide hF7
                have hxl : D.xb < w6.heap.size := by obtain ⟨_, hd⟩ := HF6.out.dc; exact lt_of_some hd.blk
                have hbk := (hb7.block w6.heap.size (by simp) (by omega)).trans (block_new w6 _)
                have z0 := cell_block hbk 0
                have z1 := cell_block hbk 1
                have zl := lt_of_some hbk
                simp at z0 z1
                clear hF7 hb7 hbk
                have hk2 : k7 = 0 ∨ k7 = 1 := by omega
                rcases hk2 with rfl | rfl
                · go_wp2_with fail
                  refine (next_fq HS.out HF7.out 3 _ rfl (by omega) (by omega)).mono ?_
                  rintro e w8 ⟨k8, hk8, rfl, hF8, _⟩
                  have HF8 := hide hF8
                  clear hF8
                  go_wp2_with fail
                  refine (text_fq HF8.out k8 (by omega)).mono ?_
                  rintro e w9 ⟨rfl, hF9, _⟩
                  have HF9 := hide hF9
                  clear hF9
                  go_wp2_with fail
                  refine (next_fq HS.out HF9.out 3 _ rfl (by omega) (by omega)).mono ?_
                  rintro e wa ⟨ka, hka, rfl, hFa, _⟩
                  have HFa := hide hFa
                  clear hFa
                  go_wp2_with fail
                  refine (text_fq HFa.out ka (by omega)).mono ?_
                  rintro e wb ⟨rfl, hFb, _⟩
                  have HFb := hide hFb
                  clear hFb
                  go_wp2
                  go_roundw
                  case rel => exact ⟨_, m', by omega, rfl, by go_num, by simp only [ByteArray.size_append, bsz]; simp; omega, HFb⟩
                  case measure => (simp [intOf]; try omega)
                · go_wp2_with fail
                  refine (next_fq HS.out HF7.out 3 _ rfl (by omega) (by omega)).mono ?_
                  rintro e w8 ⟨k8, hk8, rfl, hF8, _⟩
                  have HF8 := hide hF8
                  clear hF8
                  go_wp2_with fail
                  refine (text_fq HF8.out k8 (by omega)).mono ?_
                  rintro e w9 ⟨rfl, hF9, _⟩
                  have HF9 := hide hF9
                  clear hF9
                  go_wp2_with fail
                  refine (next_fq HS.out HF9.out 3 _ rfl (by omega) (by omega)).mono ?_
                  rintro e wa ⟨ka, hka, rfl, hFa, _⟩
                  have HFa := hide hFa
                  clear hFa
                  go_wp2_with fail
                  refine (text_fq HFa.out ka (by omega)).mono ?_
                  rintro e wb ⟨rfl, hFb, _⟩
                  have HFb := hide hFb
                  clear hFb
                  go_wp2
                  go_roundw
                  case rel => exact ⟨_, m', by omega, rfl, by go_num, by simp only [ByteArray.size_append, bsz]; simp; omega, HFb⟩
                  case measure => (simp [intOf]; try omega)
            · have hm00 : m = 0 := by omega
              subst hm00
              obtain ⟨cn, _, ln, lt0⟩ := HFq.out.cell hk
              have hk0 : (0 : Int) ≤ (k : Int) := by omega
              have hk4 : (k : Int) < 4 := by omega
              have hbl : bu.data.toList.length ≤ 600 := by rw [Array.length_toList]; show bu.size ≤ 600; omega
              have hrs := HFq.out.st.rising
              obtain ⟨hok, _, hI6, _⟩ := HI.out.set hrs hk hbl
              obtain ⟨T1, hT1⟩ : ∃ T1 : Nat → List UInt8, T1 = fun i => if i = k then bu.data.toList else T i := ⟨_, rfl⟩
              have HI6 := hide (show InS T1 _ by rw [hT1]; exact hI6)
              have HL6 := hide (show ∀ i, i < 4 → (T1 i).length ≤ 600 by rw [hT1]; exact sizes_if (k := k) HLn.out hbl)
              have HM6 := hide (HM.out.set (nm4 k) bu.data.toList)
              have HSt := hide (lset_any HFq.out.st (nm4 k) (by rw [nm4_len]; omega) bu.data.toList (by omega))
              rw [hok] at HSt
              simp only [decide_true] at HSt
              clear hI6 hrs hok HF5 HI HLn HM
              go_wp2_with fail
              refine HSt.out.mono ?_
              rintro e w6 ⟨rfl, hb6, hs6⟩
              have HF6 := hide (HFq.out.store HS.out HS.out.own hb6 hs6)
              have ff := free_block HF6.out.tbk
              have cs := cell_block HF6.out.tbk
              have tl6 := lt_of_some HF6.out.tbk
              have ctk := (HF6.out.cell hk).2.1
              have HF7 := hide (show Fq w D p nb tb T1 _ (w6.setCell ⟨tb, k, none⟩ (.string bu)) by rw [hT1]; exact HF6.out.text HS.out hk bu.data.toList)
              generalize (setS s (nm4 k) bu.data.toList).2 = s1 at *
              clear hb6 hs6 hT1 HSt cs
              go_wp2_with fail
              refine (next_fq HS.out HF7.out 2 _ rfl (by omega) (by omega)).mono ?_
              rintro e w7 ⟨k7, hk7, rfl, hF8, _⟩
              have HF8 := hide hF8
              clear hF8 HF7 HF6 ctk ff
              have hk2 : k7 = 0 ∨ k7 = 1 := by omega
              rcases hk2 with rfl | rfl
              · go_wp2
                go_roundw
                case rel => exact ⟨c + 1, T1, s1, by omega, by go_num, HF8, HM6, HI6, HL6⟩
                case measure => (simp [intOf]; try omega)
              · go_wp2_with fail
                refine (new_any w7).mono ?_
                rintro e w8 ⟨q, rfl, hb8, hs8, ho8, hx8⟩
                have HF9 := hide (HF8.out.below hb8)
                have HQ8 := hide hs8
                have HQx := hide hx8
                have hn7 := lt_of_some HF8.out.nbk
                have ht7 := lt_of_some HF8.out.tbk
                have hx7 : D.xb < w7.heap.size := by obtain ⟨_, hd⟩ := HF8.out.dc; exact lt_of_some hd.blk
                have hw7 := HF8.out.bel.size
                have HQo := hide (show ∀ k, q.own k → w.heap.size ≤ k ∧ k ≠ nb ∧ k ≠ tb ∧ k ≠ D.xb from fun k hk => by have := ho8 k hk; exact ⟨by omega, by omega, by omega, by omega⟩)
                have HQd := hide (show ∀ k, p.own k → ¬ q.own k from fun k hp hq => by have := ho8 k hq; have := HF8.out.st.lt hp; omega)
                clear hb8 hs8 ho8 hx8 hn7 ht7 hx7 hw7 HF8
                go_wp2
                go_loopw [14, 16] (fun okv i wq => ∃ (m : Nat) (t : Sto), m ≤ 4 ∧ okv = .bool true ∧ i = .int .i64 ((m : Int) - 1) ∧ Hid (Fq w D p nb tb T1 s1 wq) ∧ Hid (StAt wq q t) ∧ Hid (Part T1 m t.L) ∧ Hid (StM t)) (fun _ i _ => (intOf i + 1).toNat)
                case atStart => exact ⟨4, emptySto, by omega, rfl, rfl, HF9, HQ8, by show Part _ _ _; exact Part.zero T1, by show StM _; intro m hm; cases hm⟩
                case round =>
                  obtain ⟨m, t, hm, rfl, rfl, HFw, HQt, HPt, HMt⟩ := hrel
                  by_cases hm0 : 0 < m
                  · obtain ⟨m', rfl⟩ : ∃ m', m = m' + 1 := ⟨m - 1, by omega⟩
                    have hm4 : m' < 4 := by omega
                    rw [show (((m' + 1 : Nat) : Int) - 1) = (m' : Int) by omega]
                    obtain ⟨dn, dt, l1, l2⟩ := HFw.out.cell hm4
                    have i0 : (0 : Int) ≤ (m' : Int) := by omega
                    have i4 : (m' : Int) < 4 := by omega
                    by_cases hTm : T1 m' = []
                    · rw [hTm] at dt
                      simp only [List.toArray] at dt
                      go_wp2
                      go_roundw
                      case rel => exact ⟨m', t, by omega, rfl, rfl, HFw, HQt, by show Part _ _ _; exact HPt.out.none hTm, HMt⟩
                      case measure => (simp [intOf]; try omega)
                    · have hne : (T1 m' == []) = false := by simpa using hTm
                      obtain ⟨hok, hP, _⟩ := HPt.out.set hm4 HQt.out.rising (HL6.out m' hm4) hTm
                      have HP := hide hP
                      have HMs := hide (HMt.out.set (nm4 m') (T1 m'))
                      have HSq := hide (lset_any (w := wr.drew) (HQt.out.keep fun k _ => rfl) (nm4 m') (by rw [nm4_len]; omega) (T1 m') (by have := HL6.out m' hm4; omega))
                      rw [hok] at HSq
                      simp only [decide_true] at HSq
                      clear hok hP
                      go_wp2
                      go_region_held3 (fun w' => w'.cell? ⟨nb, m', none⟩ = some (.string ⟨(nm4 m').toArray⟩) ∧ w'.cell? ⟨tb, m', none⟩ = some (.string ⟨(T1 m').toArray⟩)) (go_keep)
                        (first
                          | (go_at_call 15; refine HSq.out.mono ?_; rintro e w9 ⟨rfl, hb9, hs9⟩; have HB9 := hide hb9; have HS9 := hide hs9; have x1 := (hb9.cell (b := nb) l1 (fun h => (HQo.out _ h).2.1 rfl) m').trans dn; have x2 := (hb9.cell (b := tb) l2 (fun h => (HQo.out _ h).2.2.1 rfl) m').trans dt; clear hb9 hs9))
                      have HFx := hide (HFw.out.store HS.out HQo.out (X := q.own) (w' := w9) ⟨HB9.out.os, HB9.out.tape, HB9.out.output, HB9.out.size, HB9.out.block⟩ (HFw.out.st.other HQt.out HQd.out HS.out.ex ⟨HB9.out.os, HB9.out.tape, HB9.out.output, HB9.out.size, HB9.out.block⟩))
                      go_wp2
                      go_roundw
                      case rel => exact ⟨m', _, by omega, rfl, rfl, HFx, HS9, HP, HMs⟩
                      case measure => (simp [intOf]; try omega)
                  · have hm00 : m = 0 := by omega
                    subst hm00
                    rw [show (((0 : Nat) : Int) - 1) = -1 by omega]
                    have a0 := (HFw.out.cell (k := 0) (by omega))
                    have a1 := (HFw.out.cell (k := 1) (by omega))
                    have a2 := (HFw.out.cell (k := 2) (by omega))
                    have a3 := (HFw.out.cell (k := 3) (by omega))
                    obtain ⟨b0, d0, l1, l2⟩ := a0
                    obtain ⟨b1, d1, _, _⟩ := a1
                    obtain ⟨b2, d2, _, _⟩ := a2
                    obtain ⟨b3, d3, _, _⟩ := a3
                    simp only [nm4] at b0 b1 b2 b3
                    have ht0 := HTb.out.lt
                    go_wp2_with fail
                    refine (alike_any T1 HFw.out.st HQt.out HQd.out HS.out.ex HQx.out HM6.out HMt.out (HTb.out.below HFw.out.bel ht0) ⟨fun h => by have := (HS.out.own 0 h).1; omega, fun h => by have := (HQo.out 0 h).1; omega⟩ HI6.out HPt.out.full).mono ?_
                    rintro e w9 ⟨rfl, s2, hs2, hM2, hI2, hb2⟩
                    have HFz := hide (HFw.out.store HS.out (X := fun k => p.own k ∨ q.own k) (fun k h => h.elim (HS.out.own k) (HQo.out k)) hb2 hs2)
                    have HM2 := hide hM2
                    have HI2 := hide hI2
                    clear hs2 hM2 hI2 hb2
                    go_wp2
                    go_roundw
                    case rel => exact ⟨c + 1, T1, s2, by omega, by go_num, HFz, HM2, HI2, HL6⟩
                    case measure => (simp [intOf]; try omega)
    · have hce : c = 20 := by omega
      subst hce
      go_wp2
      go_ret
      exact ⟨rfl, HF.out.bel⟩
end Go.Proofs.YtpmmjkiclngpmaaGreatDoor
