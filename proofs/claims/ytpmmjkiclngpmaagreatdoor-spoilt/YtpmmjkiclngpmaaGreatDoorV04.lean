/- YtpmmjkiclngpmaaGreatDoorV04 -/
import Derived.Test.YtpmmjkiclngpmaaGreatDoorV03
import Derived.Test.YtpmmjkiclngpmaaGreatDoorB19
import Derived.Deep.RegionWith
import Derived.Deep.RegionHeld3
set_option maxRecDepth 100000
set_option linter.unusedSimpArgs false
set_option linter.unusedVariables false
set_option maxHeartbeats 12800000
namespace Go.Proofs.YtpmmjkiclngpmaaGreatDoor
open Go.RowKit
theorem ret_sb {a b : ByteArray} {c d : Bool} (h : a = b) (h' : c = d) : Ending.returned (.tuple #[.string a,.bool c]) = .returned (.tuple #[.string b,.bool d]) := by rw [h,h']
theorem leafT_len (zs : List Int) (i : Nat) : (leafT zs i).1.1.length ≤ 5 := by unfold leafT; split <;> simp
theorem truth_leaf (D : Dp) (d : Nat) (vs : List Kn) (v : Value) (i : Nat) (w : World) (hD : Dc D i w) (h0 : d = 0 ∨ (nextB D.zs i 5).1 = 0) (hd : d ≤ 6) :
    Calls Tryz.prog 36 #[.pointer (some ⟨D.xb,0,none⟩),.int .i64 d,v] w fun e w' =>
    e = .returned (.tuple #[.string ⟨(leafT D.zs (nextB D.zs i 5).2).1.1.toArray⟩,.bool (leafT D.zs (nextB D.zs i 5).2).1.2]) ∧ But D.xb w w' ∧ Dc D (leafT D.zs (nextB D.zs i 5).2).2 w' := by
  have HD := hide hD
  clear hD
  by_cases hd0 : d = 0
  · subst hd0
    rw [show ((0 : Nat) : Int) = 0 from rfl]
    clear h0
    rcases hz : ((nextB D.zs (nextB D.zs i 5).2 2).1 == 0) with _ | _
    all_goals
      go_enter Tryz.func36,Tryz.ntmps36
      go_wp2_with fail
      refine (next_any D i _ (by exact HD.out) 5 (by omega) (by omega)).mono ?_
      rintro e w1 ⟨rfl,hb1,hd1⟩
      have HB1 := hide hb1
      have HD1 := hide hd1
      clear hb1 hd1
      go_wp2_with fail
      refine (next_any D (nextB D.zs i 5).2 _ (by exact HD1.out) 2 (by omega) (by omega)).mono ?_
      rintro e w2 ⟨rfl,hb2,hd2⟩
      have HB2 := hide (HB1.out.trans hb2)
      have HD2 := hide hd2
      clear hb2 hd2
      go_wp2
      go_ret2
      exact ⟨ret_sb (by simp [leafT,hz]) (by simp [leafT,hz]),HB2.out,by have := HD2.out; simpa [leafT,hz] using this⟩
  · have hc : ((nextB D.zs i 5).1 == 0) = true := by
      rcases h0 with h | h
      · exact absurd h hd0
      · simp [h]
    clear h0
    rcases hz : ((nextB D.zs (nextB D.zs i 5).2 2).1 == 0) with _ | _
    all_goals
      go_enter Tryz.func36,Tryz.ntmps36
      go_wp2_with fail
      refine (next_any D i _ (by exact HD.out) 5 (by omega) (by omega)).mono ?_
      rintro e w1 ⟨rfl,hb1,hd1⟩
      have HB1 := hide hb1
      have HD1 := hide hd1
      clear hb1 hd1
      go_wp2_with fail
      refine (next_any D (nextB D.zs i 5).2 _ (by exact HD1.out) 2 (by omega) (by omega)).mono ?_
      rintro e w2 ⟨rfl,hb2,hd2⟩
      have HB2 := hide (HB1.out.trans hb2)
      have HD2 := hide hd2
      clear hb2 hd2
      go_wp2
      go_ret2
      exact ⟨ret_sb (by simp [leafT,hz]) (by simp [leafT,hz]),HB2.out,by have := HD2.out; simpa [leafT,hz] using this⟩
theorem truth_step (D : Dp) (d : Nat) (hd : d ≤ 5) (N : List Kn → Nat → Mk × Nat) (hN : NumC D d N) (T : List Kn → Nat → (List UInt8 × Bool) × Nat) (hT : TruC D d T) : TruC D (d + 1) (stepTru D.zs N T) := by
  intro vs v i w hD hV hvl
  have h5 : 5 ^ d ≤ 5 ^ 5 := Nat.pow_le_pow_right (by omega) hd
  have hp5 : 1 ≤ 5 ^ d := Nat.pow_pos (by omega)
  rcases hc0 : ((nextB D.zs i 5).1 == 0) with _ | _
  rotate_left
  · have hE : stepTru D.zs N T vs i = leafT D.zs (nextB D.zs i 5).2 := by simp [stepTru,hc0]
    refine (truth_leaf D (d + 1) vs v i w hD (Or.inr (by simpa using hc0)) (by omega)).mono ?_
    rintro e w' ⟨rfl,hb,hd'⟩
    rw [hE]
    refine ⟨rfl,hb,hd',?_⟩
    show (leafT D.zs (nextB D.zs i 5).2).1.1.length ≤ 2000 * 5 ^ (d + 1)
    have := leafT_len D.zs (nextB D.zs i 5).2
    rw [Nat.pow_succ]
    omega
  have h1 := lt_of_some hD.blk
  have HN := hide hN
  have HT := hide hT
  have HD := hide hD
  have HV := hide hV
  clear hN hT hD hV
  rw [show ((d + 1 : Nat) : Int) = (d : Int) + 1 by omega]
  have e0 : decide ((d : Int) + 1 ≤ 0) = false := decide_eq_false (by omega)
  rcases hc1 : ((nextB D.zs i 5).1 == 1) with _ | _
  rotate_left
  · have HE := hide (show stepTru D.zs N T vs i = (([33,40] ++ (T vs (nextB D.zs i 5).2).1.1 ++ [41],!(T vs (nextB D.zs i 5).2).1.2),(T vs (nextB D.zs i 5).2).2) by simp [stepTru,hc0,hc1])
    go_enter Tryz.func36,Tryz.ntmps36
    go_wp2_with fail
    refine (next_any D i _ (by exact HD.out) 5 (by omega) (by omega)).mono ?_
    rintro e w1 ⟨rfl,hb1,hd1⟩
    generalize hi1 : nextB D.zs i 5 = i1 at *
    have HB1 := hide hb1
    have HD1 := hide hd1
    have HV1 := hide (HV.out.but hb1)
    clear hb1 hd1 hi1
    go_wp2_with fail
    refine (HT.out vs v i1.2 _ (by exact HD1.out) (by exact HV1.out) (by omega)).mono ?_
    rintro e w2 ⟨rfl,hb,hd',hlenw2⟩
    generalize hr : T vs i1.2 = rt at *
    have HB2 := hide (HB1.out.trans hb)
    have HD2 := hide hd'
    clear hb hd' hr
    go_wp2
    go_ret2
    rw [HE.out]
    refine ⟨ret_sb (join3 [33,40] rt.1.1 [41]) rfl,HB2.out,HD2.out,?_⟩
    simp only [List.length_append,List.length_cons,List.length_nil,Nat.pow_succ]
    omega
  rcases hc2 : ((nextB D.zs i 5).1 == 2) with _ | _
  all_goals
    have HE := hide (show stepTru D.zs N T vs i = (([40] ++ (N vs (nextB D.zs i 5).2).1.s ++ (if (nextB D.zs i 5).1 == 2 then [41,32,61,61,32,40] else [41,60,40]) ++ (N vs (N vs (nextB D.zs i 5).2).2).1.s ++ [41],if (nextB D.zs i 5).1 == 2 then (N vs (nextB D.zs i 5).2).1.v == (N vs (N vs (nextB D.zs i 5).2).2).1.v else decide ((N vs (nextB D.zs i 5).2).1.v < (N vs (N vs (nextB D.zs i 5).2).2).1.v)),(N vs (N vs (nextB D.zs i 5).2).2).2) by simp [stepTru,hc0,hc1,hc2])
    go_enter Tryz.func36,Tryz.ntmps36
    go_wp2_with fail
    refine (next_any D i _ (by exact HD.out) 5 (by omega) (by omega)).mono ?_
    rintro e w1 ⟨rfl,hb1,hd1⟩
    generalize hi1 : nextB D.zs i 5 = i1 at *
    have HB1 := hide hb1
    have HD1 := hide hd1
    have HV1 := hide (HV.out.but hb1)
    have hs1 := hb1.size
    clear hb1 hd1 hi1
    go_wp2_with fail
    refine (HN.out vs v i1.2 _ (by exact HD1.out) (by exact HV1.out) (by omega)).mono ?_
    rintro e w2 ⟨rfl,hb,hd',hlenw2⟩
    generalize hr : N vs i1.2 = ra at *
    have hsw2 := hb.size
    have HB2 := hide (HB1.out.trans hb)
    have HD2 := hide hd'
    have HV2 := hide (HV1.out.but hb)
    clear hb hd' hr
    unfold mkVal
    go_wp2_with fail
    refine (HN.out vs v ra.2 _ (by exact HD2.out.alloc _) (by exact HV2.out.but (But.of_below ((Below.refl _ _).alloc (Nat.le_refl _) _))) (by omega)).mono ?_
    rintro e w3 ⟨rfl,hb,hd',hlenw3⟩
    generalize hr : N vs ra.2 = rb at *
    have hsw3 := hb.size
    have HB3 := hide ((HB2.out.alloc _).trans hb)
    have HA3 := hide ((hb.block w2.heap.size (by simp) (by omega)).trans (block_new w2 _))
    have HD3 := hide hd'
    simp at hsw3
    clear hb hd' hr
    have l0 := cell_block HA3.out 0
    have l1 := cell_block HA3.out 1
    have ls := lt_of_some HA3.out
    simp at l0 l1
    unfold mkVal
    go_wp2
    go_region
    all_goals
      go_wp2
      go_ret2
      rw [HE.out]
      refine ⟨?_,(HB3.out.alloc _).drew,(HD3.out.alloc _).below ((Below.refl _ _).drew),?_⟩
      · simp only [hc2,if_true,if_false,Bool.false_eq_true]
        exact ret_sb (join5 [40] ra.1.s _ rb.1.s [41]) rfl
      · simp only [hc2,if_true,if_false,Bool.false_eq_true,List.length_append,List.length_cons,List.length_nil,Nat.pow_succ]
        omega
end Go.Proofs.YtpmmjkiclngpmaaGreatDoor
namespace Go.Proofs.YtpmmjkiclngpmaaGreatDoor
open Go.RowKit
theorem nextB_bd (zs : List Int) (i : Nat) (n : Int) (h : 0 < n) : 0 ≤ (nextB zs i n).1 ∧ (nextB zs i n).1 < n := by
  unfold nextB
  split
  · exact ⟨Int.le_refl _,h⟩
  · exact pickB_bd _ _ h
end Go.Proofs.YtpmmjkiclngpmaaGreatDoor
namespace Go.Proofs.YtpmmjkiclngpmaaGreatDoor
open Go.RowKit
theorem info_known : (Tryz.prog.info? 35).map (fun i => (i.zero,i.size,i.bytes)) = some (some (.agg #[.string ⟨#[]⟩,.int .i64 0]),2,24) := by kernel_rfl
theorem kn_len (l : List Kn) : (l.flatMap knCells).length = l.length * 2 := by
  induction l with
  | nil => rfl
  | cons x r ih => simp only [List.flatMap_cons,List.length_append,ih,List.length_cons,knCells,List.length_nil]; omega
theorem kn_one (l : List Kn) : ∀ u ∈ l.flatMap knCells,u.oneCell' = true := by
  intro u hu
  simp only [List.mem_flatMap,knCells] at hu
  obtain ⟨x,_,hx⟩ := hu
  simp at hx
  rcases hx with rfl | rfl <;> rfl
theorem Vars.cells {w : World} {g : Nat} {cur : Array Value} {vs : List Kn} (h : w.heap[g]? = some (.cells cur 35 (0,0))) (ht : cur.toList.take (vs.length * 2) = vs.flatMap knCells) :
    ∀ j u,(vs.flatMap knCells)[j]? = some u → w.cell? (Addr.add ⟨g,0,none⟩ j) = some u := by
  intro j u hj
  have e1 : (Addr.add ⟨g,0,none⟩ j) = ⟨g,j,none⟩ := by unfold Addr.add; split <;> simp_all
  have hj' : j < vs.length * 2 := by rw [← kn_len]; exact (List.getElem?_eq_some_iff.1 hj).1
  rw [e1,cell_block h,← hj,← ht,List.getElem?_take,if_pos hj']
  simp
theorem Vars.owns {w : World} {base xb : Nat} {v : Value} {vs : List Kn} (h : w.ownsRow base 35 2 v vs.length (vs.flatMap knCells)) (hb : xb < base) (h0 : 0 < vs.length) (h1 : vs.length ≤ 100) (h2 : ∀ k ∈ vs,k.name.length ≤ 2) : Vars xb w v vs := by
  rcases h.2 with ⟨_,h2⟩ | ⟨g,cap,cur,hv,hg,hc,hn,_,_,ht⟩
  · omega
  · exact ⟨g,cap,cur,hv,by omega,hc,hn,ht,h0,h1,h2⟩
theorem names_snoc {vs : List Kn} {nm : List UInt8} {v : Int} (h : ∀ k ∈ vs,k.name.length ≤ 2) (hn : nm.length ≤ 2) : ∀ k ∈ vs ++ [⟨nm,v⟩],k.name.length ≤ 2 := by
  intro k hk
  rcases List.mem_append.1 hk with hk | hk
  · exact h k hk
  · have : k = ⟨nm,v⟩ := by simpa using hk
    subst this; exact hn
theorem But.grown {pb : Nat} {a w w' : World} {r : Option Nat} (h : But pb a w) (hg : w.grownBy w' r) (hr : ∀ g,r = some g → a.heap.size ≤ g) : But pb a w' :=
  ⟨hg.os.trans h.os,hg.tape.trans h.tape,hg.output.trans h.output,Nat.le_trans h.size hg.size,fun k hk hne => (hg.block k (Nat.lt_of_lt_of_le hk h.size) (by intro e; have := hr k e.symm; omega)).trans (h.block k hk hne)⟩
theorem Dc.grow {D : Dp} {i : Nat} {w w' : World} {r : Option Nat} (h : Dc D i w) (hg : w.grownBy w' r) (hr : ∀ k,r = some k → D.xb < k) : Dc D i w' := by
  have hx : D.xb < w.heap.size := lt_of_some h.blk
  have h2 := h.old
  refine ⟨(hg.block _ hx (fun e => by have := hr _ e.symm; omega)).trans h.blk,fun j hj => ?_,h.addr,h.ne,h.old,h.wf,h.le,h.len⟩
  have hb := hg.block D.b (by omega) (fun e => by have := hr _ e.symm; omega)
  rw [show w'.cell? ⟨D.b,D.off + j,none⟩ = w.cell? ⟨D.b,D.off + j,none⟩ from by simp only [World.cell?,hb]]
  exact h.cells j hj
theorem number_let (D : Dp) (d : Nat) (hd : d ≤ 5) (N : List Kn → Nat → Mk × Nat) (hN : NumC D d N) (T : List Kn → Nat → (List UInt8 × Bool) × Nat) (hT : TruC D d T) (vs : List Kn) (v : Value) (i : Nat) (w : World) (hD : Dc D i w) (hV : Vars D.xb w v vs) (hvl : vs.length + (d + 1) ≤ 100) (hc : (nextB D.zs i 9).1 = 7) :
    Calls Tryz.prog 14 #[.pointer (some ⟨D.xb,0,none⟩),.int .i64 ((d : Int) + 1),v] w fun e w' =>
    e = .returned (mkVal (stepNum D.zs N T vs i).1) ∧ But D.xb w w' ∧ Dc D (stepNum D.zs N T vs i).2 w' ∧ (stepNum D.zs N T vs i).1.s.length ≤ 2000 * 5 ^ (d + 1) := by
  have h1 := lt_of_some hD.blk
  have h5 : 5 ^ d ≤ 5 ^ 5 := Nat.pow_le_pow_right (by omega) hd
  have hp5 : 1 ≤ 5 ^ d := Nat.pow_pos (by omega)
  have HN := hide hN
  have HT := hide hT
  have HD := hide hD
  have HV := hide hV
  have HC := hide hc
  have HE := hide (show stepNum D.zs N T vs i = (⟨[108,101,116,32] ++ ([[107],[110],[120,49]].getD (nextB D.zs (nextB D.zs i 9).2 3).1.toNat []) ++ [32,61,32] ++ (N vs (nextB D.zs (nextB D.zs i 9).2 3).2).1.s ++ [32,105,110,32] ++ (N (vs ++ [⟨[[107],[110],[120,49]].getD (nextB D.zs (nextB D.zs i 9).2 3).1.toNat [],(N vs (nextB D.zs (nextB D.zs i 9).2 3).2).1.v⟩]) (N vs (nextB D.zs (nextB D.zs i 9).2 3).2).2).1.s,(N (vs ++ [⟨[[107],[110],[120,49]].getD (nextB D.zs (nextB D.zs i 9).2 3).1.toNat [],(N vs (nextB D.zs (nextB D.zs i 9).2 3).2).1.v⟩]) (N vs (nextB D.zs (nextB D.zs i 9).2 3).2).2).1.v⟩,(N (vs ++ [⟨[[107],[110],[120,49]].getD (nextB D.zs (nextB D.zs i 9).2 3).1.toNat [],(N vs (nextB D.zs (nextB D.zs i 9).2 3).2).1.v⟩]) (N vs (nextB D.zs (nextB D.zs i 9).2 3).2).2).2) by simp [stepNum,hc])
  clear hN hT hD hV hc
  have e0 : ((d : Int) + 1 == 0) = false := by simp; omega
  go_enter Tryz.func14,Tryz.ntmps14
  go_wp2_with fail
  refine (next_any D i _ (by exact HD.out.alloc _) 9 (by omega) (by omega)).mono ?_
  rintro e w1 ⟨rfl,hb1,hd1⟩
  rw [HC.out]
  generalize hi1 : (nextB D.zs i 9).2 = i1 at *
  have HB1 := hide ((But.of_below ((Below.refl _ _).alloc (Nat.le_refl _) _)).trans hb1)
  have HZ1 := hide (res_block hb1 h1)
  have HD1 := hide hd1
  have HV1 := hide (HV.out.but HB1.out)
  have hs1 := hb1.size
  simp at hs1
  clear hb1 hd1 hi1
  go_wp2_with fail
  refine (next_any D i1 _ (by exact HD1.out.alloc _) 3 (by omega) (by omega)).mono ?_
  rintro e w2 ⟨rfl,hb,hd'⟩
  have hbd := nextB_bd D.zs i1 3 (by omega)
  obtain ⟨q,hq⟩ : ∃ q : Nat,(q : Int) = (nextB D.zs i1 3).1 := ⟨(nextB D.zs i1 3).1.toNat,by omega⟩
  rw [← hq] at hbd HE ⊢
  have HB2 := hide ((HB1.out.alloc _).trans hb)
  have HZ2 := hide ((hb.block w.heap.size (by simp; omega) (by omega)).trans (block_alloc HZ1.out _))
  have HK2 := hide ((hb.block w1.heap.size (by simp) (by omega)).trans (block_new w1 _))
  have HD2 := hide hd'
  have HV2 := hide ((HV1.out.but (But.of_below ((Below.refl _ _).alloc (Nat.le_refl _) _))).but hb)
  have hsw2 := hb.size
  simp at hsw2
  generalize hi2 : (nextB D.zs i1 3).2 = i2 at *
  clear hb hd' hq hi2
  rw [Int.toNat_natCast] at HE
  have hk := cell_block HK2.out q
  obtain ⟨nm,hnm,hnl⟩ : ∃ nm : List UInt8,[[107],[110],[120,49]].getD q [] = nm ∧ nm.length ≤ 2 := by
    refine ⟨_,rfl,?_⟩
    match q,hbd with
    | 0,_ => simp
    | 1,_ => simp
    | 2,_ => simp
  have hk' : w2.cell? ⟨w1.heap.size,q,none⟩ = some (.string ⟨nm.toArray⟩) := by
    rw [hk,← hnm]
    match q,hbd with
    | 0,_ => rfl
    | 1,_ => rfl
    | 2,_ => rfl
  rw [hnm] at HE
  clear hk hnm
  go_wp2_with fail
  refine (HN.out vs v i2 _ (by exact HD2.out) (by exact HV2.out) (by omega)).mono ?_
  rintro e w3 ⟨rfl,hb,hd',hlenw3⟩
  generalize hr : N vs i2 = ra at *
  have hsw3 := hb.size
  have HB3 := hide (HB2.out.trans hb)
  have HZ3 := hide ((hb.block _ (lt_of_some HZ2.out) (by omega)).trans HZ2.out)
  have HD3 := hide hd'
  have HV3 := hide (HV2.out.but hb)
  clear hb hd' hr hk'
  unfold mkVal
  obtain ⟨g,cap,cur,hv,hgx,hgb,hgc,hgt,hv0,hv1,hvn⟩ := HV3.out
  subst hv
  obtain ⟨j0,hj,hj0,hj1,hj2⟩ := info_parts info_known
  have hgl := lt_of_some hgb
  have HGC := hide (Vars.cells (block_alloc hgb (.cells #[.string ⟨ra.1.s.toArray⟩,.int .i64 ra.1.v] 32)) hgt)
  clear hgb hgt
  go_wp2_with (at_builtin; go_must (refine wpList_append_own _ rfl _ _ 36 rfl (w3.heap.size + 1) 35 j0 (.agg #[.string ⟨#[]⟩,.int .i64 0]) 2 24 Tryz.underlying36 hj hj0 hj1 hj2 rfl (by decide) (.slice none 0 0) 0 [] rfl (World.ownsRow_nil _ _ _ _) ⟨g,0,none⟩ vs.length cap (vs.flatMap knCells) rfl (kn_len vs) HGC.out (kn_one vs) ?c1 ?c2 ?c3 ?_))
  case c1 => unfold maxLen; omega
  case c2 => omega
  case c3 => simp
  intro v4 w4 hown4 hgrow4 hnil
  clear hnil HGC
  have HB4 := hide ((HB3.out.alloc (.cells #[.string ⟨ra.1.s.toArray⟩,.int .i64 ra.1.v] 32)).grown hgrow4 (fun g e => by simp [Value.ownBlock] at e))
  have HL4 := hide ((hgrow4.block w3.heap.size (by simp) (by simp [Value.ownBlock])).trans (block_new w3 _))
  have HZ4 := hide ((hgrow4.block w.heap.size (by simp; omega) (by simp [Value.ownBlock])).trans (block_alloc HZ3.out _))
  have HD4 := hide ((HD3.out.alloc (.cells #[.string ⟨ra.1.s.toArray⟩,.int .i64 ra.1.v] 32)).below ⟨hgrow4.os,hgrow4.tape,hgrow4.output,hgrow4.size,fun k hk => hgrow4.block k hk (by simp [Value.ownBlock])⟩)
  have HW4 := hide hown4
  have hs4 := hgrow4.size
  simp at hs4
  clear hown4 hgrow4
  have l0 := cell_block HL4.out 0
  have l1 := cell_block HL4.out 1
  have ls := lt_of_some HL4.out
  simp at l0 l1
  go_wp2_with (at_builtin; go_must (refine wpList_append_own _ rfl _ _ 36 rfl (w3.heap.size + 1) 35 j0 (.agg #[.string ⟨#[]⟩,.int .i64 0]) 2 24 Tryz.underlying36 hj hj0 hj1 hj2 rfl (by decide) _ _ _ rfl (HW4.out.alloc _) ⟨w4.heap.size,0,none⟩ 1 1 (knCells ⟨nm,ra.1.v⟩) rfl rfl ?d1 ?d2 ?d3 ?d4 ?d5 ?_))
  case d1 =>
    intro j u hj
    match j,hj with
    | 0,hj => simp [knCells] at hj; subst hj; simp [Addr.add]
    | 1,hj => simp [knCells] at hj; subst hj; simp [Addr.add]
  case d2 => intro u hu; simp [knCells] at hu; rcases hu with rfl | rfl <;> rfl
  case d3 => unfold maxLen; omega
  case d4 => omega
  case d5 => simp; omega
  intro v5 w5 hown5 hgrow5 hnil
  clear hnil
  have hob : ∀ k,v4.ownBlock = some k → w3.heap.size + 1 ≤ k := fun k e => (owns_in HW4.out k e).1
  have HB5 := hide ((HB4.out.alloc (.cells #[.string ⟨nm.toArray⟩,.int .i64 ra.1.v] 35)).grown hgrow5 (fun k e => by have := hob k e; omega))
  have HL5 := hide ((hgrow5.block w3.heap.size (by simp; omega) (fun e => by have := hob _ e.symm; omega)).trans (block_alloc HL4.out _))
  have HZ5 := hide ((hgrow5.block w.heap.size (by simp; omega) (fun e => by have := hob _ e.symm; omega)).trans (block_alloc HZ4.out _))
  have HD5 := hide ((HD4.out.alloc (.cells #[.string ⟨nm.toArray⟩,.int .i64 ra.1.v] 35)).grow hgrow5 (fun k e => by have := hob k e; omega))
  have HW5 := hide (Vars.owns (vs := vs ++ [⟨nm,ra.1.v⟩]) (xb := D.xb) (base := w3.heap.size + 1) (by simpa using hown5) (by omega) (by simp) (by simp; omega) (names_snoc hvn hnl))
  have hs5 := hgrow5.size
  simp at hs5
  clear hown5 hgrow5 hob l0 l1 ls
  go_wp2_with fail
  refine (HN.out (vs ++ [⟨nm,ra.1.v⟩]) v5 ra.2 _ (by exact HD5.out) (by exact HW5.out) (by simp; omega)).mono ?_
  rintro e w6 ⟨rfl,hb,hd',hlenw6⟩
  generalize hr : N (vs ++ [⟨nm,ra.1.v⟩]) ra.2 = rb at *
  have HB6 := hide (HB5.out.trans hb)
  have HZ6 := hide ((hb.block _ (lt_of_some HZ5.out) (by omega)).trans HZ5.out)
  have HA6 := hide ((hb.block _ (lt_of_some HL5.out) (by omega)).trans HL5.out)
  have HD6 := hide hd'
  have hs6 := hb.size
  clear hb hd' hr
  have l0 := cell_block HA6.out 0
  have l1 := cell_block HA6.out 1
  have ls := lt_of_some HA6.out
  have z0 := cell_block HZ6.out 0
  have z1 := cell_block HZ6.out 1
  have zf := free_block HZ6.out
  have zs := lt_of_some HZ6.out
  simp at l0 l1 z0 z1
  unfold mkVal
  go_wp2
  rw [HE.out]
  refine bodyPost_ret (v := .agg #[.string (((((⟨[108,101,116,32].toArray⟩ ++ ⟨nm.toArray⟩) ++ ⟨[32,61,32].toArray⟩) ++ ⟨ra.1.s.toArray⟩) ++ ⟨[32,105,110,32].toArray⟩) ++ ⟨rb.1.s.toArray⟩),.int .i64 rb.1.v]) (by simp [results,Tryz.results14,go_sem,z0,z1,zs]) rfl
    ⟨by rw [join6]; rfl,((HB6.out.setCell (p := ⟨w.heap.size,0,none⟩) (Or.inr (Nat.le_refl _)) _).setCell (p := ⟨w.heap.size,1,none⟩) (Or.inr (Nat.le_refl _)) _).alloc _,((HD6.out.set w.heap.size 0 _ h1).set w.heap.size 1 _ h1).alloc _,?_⟩
  simp only [List.length_append,List.length_cons,List.length_nil,Nat.pow_succ]
  omega
end Go.Proofs.YtpmmjkiclngpmaaGreatDoor
namespace Go.Proofs.YtpmmjkiclngpmaaGreatDoor
open Go.RowKit
theorem textB_le (n : Nat) (h : n < 1000) : (textB n).length ≤ 1000 := by have := textB_len n; omega
theorem number_numeral (D : Dp) (d : Nat) (hd : d ≤ 6) (vs : List Kn) (v : Value) (i : Nat) (w : World) (hD : Dc D i w) (hV : Vars D.xb w v vs)
    (h0 : d = 0 ∨ (nextB D.zs i 9).1 < 2) (hc2 : ((nextB D.zs i 9).1 % 2 == 0) = false) :
    Calls Tryz.prog 14 #[.pointer (some ⟨D.xb,0,none⟩),.int .i64 d,v] w fun e w' =>
    e = .returned (mkVal (leafK D.zs (nextB D.zs i 9).1 vs (nextB D.zs i 9).2).1) ∧ But D.xb w w' ∧ Dc D (leafK D.zs (nextB D.zs i 9).1 vs (nextB D.zs i 9).2).2 w' ∧ (leafK D.zs (nextB D.zs i 9).1 vs (nextB D.zs i 9).2).1.s.length ≤ 1000 := by
  have h1 := lt_of_some hD.blk
  have HD := hide hD
  have hbd := nextB_bd D.zs i 9 (by omega)
  have HE := hide (show leafK D.zs (nextB D.zs i 9).1 vs (nextB D.zs i 9).2 = (⟨textB (nextB D.zs (nextB D.zs i 9).2 1000).1.toNat,(nextB D.zs (nextB D.zs i 9).2 1000).1⟩,(nextB D.zs (nextB D.zs i 9).2 1000).2) by simp [leafK,hc2])
  have hbd2 := nextB_bd D.zs (nextB D.zs i 9).2 1000 (by omega)
  obtain ⟨g,cap,cur,hv,hgx,hgb,hgc,hgt,hv0,hv1,hvn⟩ := hV
  subst hv
  clear hD hgb hgt
  generalize hn9 : nextB D.zs i 9 = n9 at *
  have HN9 := hide hn9
  clear hn9
  have hcm : ((n9.1).tmod 2 == 0) = false := by rw [Int.tmod_eq_emod_of_nonneg hbd.1]; exact hc2
  obtain ⟨q,hq⟩ : ∃ q : Nat,(q : Int) = (nextB D.zs n9.2 1000).1 := ⟨(nextB D.zs n9.2 1000).1.toNat,by omega⟩
  rw [← hq] at hbd2 HE
  rw [Int.toNat_natCast] at HE
  have HQ := hide hq
  clear hq
  have htl := textB_le q (by omega)
  have hbr : ((d : Int) == 0) = true ∨ (((d : Int) == 0) = false ∧ n9.1 < 2) := by
    rcases h0 with h | h
    · left; simp; omega
    · by_cases hd0 : d = 0
      · left; simp; omega
      · right; exact ⟨by simp; omega,h⟩
  clear h0
  rcases hbr with hbr | ⟨hbr,hlt⟩
  all_goals
    go_enter Tryz.func14,Tryz.ntmps14
    go_wp2_with fail
    refine (next_any D i _ (by exact HD.out.alloc _) 9 (by omega) (by omega)).mono ?_
    rintro e w1 ⟨rfl,hb1,hd1⟩
    rw [HN9.out] at hd1 ⊢
    have HB1 := hide ((But.of_below ((Below.refl _ _).alloc (Nat.le_refl _) _)).trans hb1)
    have HZ1 := hide (res_block hb1 h1)
    have HD1 := hide hd1
    clear hb1 hd1
    go_wp2_with fail
    refine (next_any D n9.2 _ (by exact HD1.out) 1000 (by omega) (by omega)).mono ?_
    rintro e w2 ⟨rfl,hb,hd'⟩
    rw [← HQ.out]
    have HB2 := hide (HB1.out.trans hb)
    have HZ2 := hide ((hb.block _ (lt_of_some HZ1.out) (by omega)).trans HZ1.out)
    have HD2 := hide hd'
    clear hb hd'
    go_wp2_with fail
    refine (text_any q _ (by omega)).mono ?_
    rintro e w3 ⟨rfl,hb⟩
    have HB3 := hide (HB2.out.trans (But.of_below hb))
    have HZ3 := hide ((hb.block _ (lt_of_some HZ2.out)).trans HZ2.out)
    have HD3 := hide (HD2.out.below hb)
    clear hb
    have z0 := cell_block HZ3.out 0
    have z1 := cell_block HZ3.out 1
    have zf := free_block HZ3.out
    have zs := lt_of_some HZ3.out
    simp at z0 z1
    go_wp2
    rw [HE.out]
    exact bodyPost_ret (v := mkVal ⟨textB q,q⟩) (by simp [results,Tryz.results14,go_sem,z0,z1,zs,mkVal]) rfl
      ⟨rfl,(HB3.out.setCell (p := ⟨w.heap.size,0,none⟩) (Or.inr (Nat.le_refl _)) _).setCell (p := ⟨w.heap.size,1,none⟩) (Or.inr (Nat.le_refl _)) _,(HD3.out.set w.heap.size 0 _ h1).set w.heap.size 1 _ h1,htl⟩
end Go.Proofs.YtpmmjkiclngpmaaGreatDoor
namespace Go.Proofs.YtpmmjkiclngpmaaGreatDoor
open Go.RowKit
theorem flat2 (vs : List Kn) (i : Nat) (h : i < vs.length) : (vs.flatMap knCells)[i * 2]? = some (.string ⟨vs[i].name.toArray⟩) ∧ (vs.flatMap knCells)[i * 2 + 1]? = some (.int .i64 vs[i].v) := by
  induction vs generalizing i with
  | nil => simp at h
  | cons x r ih =>
    cases i with
    | zero => simp [knCells]
    | succ i =>
      have := ih i (by simpa using h)
      have e : (i + 1) * 2 = i * 2 + 2 := by omega
      simp only [List.flatMap_cons,knCells,e,List.cons_append,List.nil_append,List.getElem?_cons_succ,List.getElem_cons_succ]
      exact this
theorem var_cells {w : World} {g : Nat} {cur : Array Value} {vs : List Kn} (h : w.heap[g]? = some (.cells cur 35 (0,0))) (ht : cur.toList.take (vs.length * 2) = vs.flatMap knCells) (i : Nat) (hi : i < vs.length) :
    w.cell? ⟨g,i * 2,none⟩ = some (.string ⟨vs[i].name.toArray⟩) ∧ w.cell? ⟨g,i * 2 + 1,none⟩ = some (.int .i64 vs[i].v) := by
  have hf := flat2 vs i hi
  have hl : ∀ j,j < 2 → cur[i * 2 + j]? = (vs.flatMap knCells)[i * 2 + j]? := by
    intro j hj
    rw [← ht,List.getElem?_take,if_pos (by omega)]; simp
  rw [cell_block h,cell_block h]
  exact ⟨(hl 0 (by omega)).trans hf.1,(hl 1 (by omega)).trans hf.2⟩
theorem lastOf_snoc (k : Kn) (l : List Kn) (x : Kn) : lastOf k (l ++ [x]) = if x.name == (lastOf k l).name then x else lastOf k l := by
  induction l generalizing k with
  | nil => simp [lastOf]
  | cons y r ih => simp only [List.cons_append,lastOf]; exact ih _
theorem lastOf_take (k : Kn) (vs : List Kn) (i : Nat) (h : i < vs.length) : lastOf k (vs.take (i + 1)) = if vs[i].name == (lastOf k (vs.take i)).name then vs[i] else lastOf k (vs.take i) := by
  rw [List.take_succ_eq_append_getElem h,lastOf_snoc]
theorem block_setCell2' {w : World} {b : Nat} {a0 a1 : Value} {e : TypeId} {f : Nat × Nat} (h : w.heap[b]? = some (.cells #[a0,a1] e f)) (u : Value) :
    (w.setCell ⟨b,0,none⟩ u).heap[b]? = some (.cells #[u,a1] e f) ∧ (w.setCell ⟨b,1,none⟩ u).heap[b]? = some (.cells #[a0,u] e f) :=
  ⟨block_setCell h 0 u,block_setCell h 1 u⟩
theorem number_variable (D : Dp) (d : Nat) (hd : d ≤ 6) (vs : List Kn) (v : Value) (i : Nat) (w : World) (hD : Dc D i w) (hV : Vars D.xb w v vs)
    (h0 : d = 0 ∨ (nextB D.zs i 9).1 < 2) (hc2 : ((nextB D.zs i 9).1 % 2 == 0) = true) :
    Calls Tryz.prog 14 #[.pointer (some ⟨D.xb,0,none⟩),.int .i64 d,v] w fun e w' =>
    e = .returned (mkVal (leafK D.zs (nextB D.zs i 9).1 vs (nextB D.zs i 9).2).1) ∧ But D.xb w w' ∧ Dc D (leafK D.zs (nextB D.zs i 9).1 vs (nextB D.zs i 9).2).2 w' := by
  have h1 := lt_of_some hD.blk
  have HD := hide hD
  have hbd := nextB_bd D.zs i 9 (by omega)
  obtain ⟨g,cap,cur,hv,hgx,hgb,hgc,hgt,hv0,hv1,hvn⟩ := hV
  have HE := hide (show leafK D.zs (nextB D.zs i 9).1 vs (nextB D.zs i 9).2 = (⟨(lastOf (vs.getD (nextB D.zs (nextB D.zs i 9).2 vs.length).1.toNat ⟨[],0⟩) vs).name,(lastOf (vs.getD (nextB D.zs (nextB D.zs i 9).2 vs.length).1.toNat ⟨[],0⟩) vs).v⟩,(nextB D.zs (nextB D.zs i 9).2 vs.length).2) by simp [leafK,hc2,hv0])
  have hbd2 := nextB_bd D.zs (nextB D.zs i 9).2 vs.length (by omega)
  subst hv
  have HG := hide hgb
  have HGt := hide hgt
  have hgl := lt_of_some hgb
  clear hD hgb hgt
  generalize hn9 : nextB D.zs i 9 = n9 at *
  have HN9 := hide hn9
  clear hn9
  have hcm : ((n9.1).tmod 2 == 0) = true := by rw [Int.tmod_eq_emod_of_nonneg hbd.1]; exact hc2
  obtain ⟨q,hq⟩ : ∃ q : Nat,(q : Int) = (nextB D.zs n9.2 vs.length).1 := ⟨(nextB D.zs n9.2 vs.length).1.toNat,by omega⟩
  rw [← hq] at hbd2 HE
  rw [Int.toNat_natCast] at HE
  have HQ := hide hq
  have hqlt : q < vs.length := by omega
  clear hq
  generalize hi2 : (nextB D.zs n9.2 vs.length).2 = i2 at *
  have HI2 := hide hi2
  clear hi2
  have hbr : ((d : Int) == 0) = true ∨ (((d : Int) == 0) = false ∧ n9.1 < 2) := by
    rcases h0 with h | h
    · left; simp; omega
    · by_cases hd0 : d = 0
      · left; simp; omega
      · right; exact ⟨by simp; omega,h⟩
  clear h0
  have hgd : vs.getD q ⟨[],0⟩ = vs[q] := by simp [List.getD,List.getElem?_eq_getElem hqlt]
  rw [hgd] at HE
  clear hgd
  rcases hbr with hbr | ⟨hbr,hlt⟩
  all_goals
    go_enter Tryz.func14,Tryz.ntmps14
    go_wp2_with fail
    refine (next_any D i _ (by exact HD.out.alloc _) 9 (by omega) (by omega)).mono ?_
    rintro e w1 ⟨rfl,hb1,hd1⟩
    rw [HN9.out] at hd1 ⊢
    have HB1 := hide ((But.of_below ((Below.refl _ _).alloc (Nat.le_refl _) _)).trans hb1)
    have HZ1 := hide (res_block hb1 h1)
    have HD1 := hide hd1
    have hs1 := hb1.size
    simp at hs1
    clear hb1 hd1
    go_wp2_with fail
    refine (next_any D n9.2 _ (by exact HD1.out) vs.length (by omega) (by omega)).mono ?_
    rintro e w2 ⟨rfl,hb,hd'⟩
    rw [← HQ.out]
    rw [HI2.out] at hd'
    have HB2 := hide (HB1.out.trans hb)
    have HZ2 := hide ((hb.block _ (lt_of_some HZ1.out) (by omega)).trans HZ1.out)
    have HD2 := hide hd'
    have HG2 := hide ((HB2.out.block g hgl hgx).trans HG.out)
    have hs2 := hb.size
    clear hb hd'
    have hvc := var_cells HG2.out HGt.out q hqlt
    obtain ⟨c0,c1⟩ := hvc
    have hg2 := lt_of_some HG2.out
    go_wp2
    go_loopw [9] (fun i wr => ∃ k : Nat,k ≤ vs.length ∧ i = .int .i64 k ∧ Hid (wr.heap[w2.heap.size]? = some (.cells #[.string ⟨(lastOf vs[q] (vs.take k)).name.toArray⟩,.int .i64 (lastOf vs[q] (vs.take k)).v] 35 (0,0))) ∧
        Hid (But D.xb w wr) ∧ Hid (Dc D i2 wr) ∧ Hid (wr.heap[w.heap.size]? = some (.cells #[.string ⟨#[]⟩,.int .i64 0] 32 (0,0))) ∧ Hid (wr.heap[g]? = some (.cells cur 35 (0,0))) ∧ w2.heap.size < wr.heap.size) (fun i _ => vs.length - (intOf i).toNat)
    case atStart =>
      exact ⟨0,Nat.zero_le _,rfl,block_new _ _,HB2.out.alloc _,HD2.out.alloc _,block_alloc HZ2.out _,block_alloc HG2.out _,by simp⟩
    case round =>
      obtain ⟨k,hk,rfl,HK,HB,HDr,HZ,HGr,hsr⟩ := hrel
      by_cases hlt2 : k < vs.length
      · obtain ⟨d0,d1⟩ := var_cells HGr.out HGt.out k hlt2
        have k0 := cell_block HK.out 0
        have k1 := cell_block HK.out 1
        have kf := free_block HK.out
        have hgr := lt_of_some HGr.out
        simp at k0 k1
        have HS := hide (lastOf_take vs[q] vs k hlt2)
        generalize hcur : lastOf vs[q] (vs.take k) = cu at *
        clear c0 c1 hcur
        rcases hnm : (vs[k].name == cu.name) with _ | _
        · go_wp2
          go_region
          all_goals
            go_wp2
            go_roundw
            case rel => exact ⟨k + 1,by omega,by go_num,by show wr.heap[w2.heap.size]? = _; rw [HS.out,hnm]; exact HK.out,HB.out.drew,HDr.out.below ((Below.refl _ _).drew),HZ.out,HGr.out,hsr⟩
            case measure => simp [intOf]; omega
        · go_wp2
          go_region
          all_goals
            go_wp2
            go_roundw
            case rel =>
              refine ⟨k + 1,by omega,by go_num,?_,?_,?_,?_,?_,?_⟩
              · have hB := (block_setCell2' (block_setCell2' HK.out (.string ⟨vs[k].name.toArray⟩)).1 (.int .i64 vs[k].v)).2
                show _ = some (Obj.cells #[.string ⟨(lastOf vs[q] (vs.take (k + 1))).name.toArray⟩,.int .i64 (lastOf vs[q] (vs.take (k + 1))).v] _ _)
                rw [HS.out,hnm]
                exact hB
              · exact ((HB.out.setCell (p := ⟨w2.heap.size,0,none⟩) (Or.inr (by have := HB2.out.size; exact this)) _).setCell (p := ⟨w2.heap.size,1,none⟩) (Or.inr (by have := HB2.out.size; exact this)) _).drew
              · exact ((HDr.out.set w2.heap.size 0 _ (by omega)).set w2.heap.size 1 _ (by omega)).below ((Below.refl _ _).drew)
              · exact (Below.heap_setCell _ _ _ _ (by show w.heap.size ≠ w2.heap.size; omega)).trans ((Below.heap_setCell _ _ _ _ (by show w.heap.size ≠ w2.heap.size; omega)).trans HZ.out)
              · exact (Below.heap_setCell _ _ _ _ (by show g ≠ w2.heap.size; omega)).trans ((Below.heap_setCell _ _ _ _ (by show g ≠ w2.heap.size; omega)).trans HGr.out)
              · simpa using hsr
            case measure => simp [intOf]; omega
      · have k0 := cell_block HK.out 0
        have k1 := cell_block HK.out 1
        have z0 := cell_block HZ.out 0
        have z1 := cell_block HZ.out 1
        have zf := free_block HZ.out
        have zs := lt_of_some HZ.out
        simp at k0 k1 z0 z1
        have HT := hide (show vs.take k = vs from List.take_of_length_le (by omega))
        rw [HT.out] at k0 k1
        clear c0 c1
        go_wp2
        rw [HE.out]
        exact bodyPost_ret (v := mkVal ⟨(lastOf vs[q] vs).name,(lastOf vs[q] vs).v⟩) (by simp [results,Tryz.results14,go_sem,z0,z1,zs,mkVal]) rfl
          ⟨rfl,(HB.out.setCell (p := ⟨w.heap.size,0,none⟩) (Or.inr (Nat.le_refl _)) _).setCell (p := ⟨w.heap.size,1,none⟩) (Or.inr (Nat.le_refl _)) _,(HDr.out.set w.heap.size 0 _ h1).set w.heap.size 1 _ h1⟩
end Go.Proofs.YtpmmjkiclngpmaaGreatDoor
namespace Go.Proofs.YtpmmjkiclngpmaaGreatDoor
open Go.RowKit
theorem wrapI (x : Int) : IntKind.i64.wrap x = wrap64 x := by
  rw [IntKind.wrap_i64]; unfold wrap64; first | rfl | omega
theorem text_more (q : Nat) (w : World) (h : q < 9) : Calls Tryz.prog 29 #[.int .i64 (1 + (q : Int))] w fun e w' => e = .returned (.string ⟨(textB (1 + q)).toArray⟩) ∧ Below w.heap.size w w' := by
  have := text_any (1 + q) w (by omega)
  rwa [show ((1 + q : Nat) : Int) = 1 + (q : Int) by omega] at this
set_option maxHeartbeats 40000000 in
theorem number_div (D : Dp) (d : Nat) (hd : d ≤ 5) (N : List Kn → Nat → Mk × Nat) (hN : NumC D d N) (T : List Kn → Nat → (List UInt8 × Bool) × Nat) (hT : TruC D d T) (vs : List Kn) (v : Value) (i : Nat) (w : World) (hD : Dc D i w) (hV : Vars D.xb w v vs) (hvl : vs.length + (d + 1) ≤ 100) (hc : (nextB D.zs i 9).1 = 5) :
    Calls Tryz.prog 14 #[.pointer (some ⟨D.xb,0,none⟩),.int .i64 ((d : Int) + 1),v] w fun e w' =>
    e = .returned (mkVal (stepNum D.zs N T vs i).1) ∧ But D.xb w w' ∧ Dc D (stepNum D.zs N T vs i).2 w' ∧ (stepNum D.zs N T vs i).1.s.length ≤ 2000 * 5 ^ (d + 1) := by
  have h1 := lt_of_some hD.blk
  have h5 : 5 ^ d ≤ 5 ^ 5 := Nat.pow_le_pow_right (by omega) hd
  have hp5 : 1 ≤ 5 ^ d := Nat.pow_pos (by omega)
  have HN := hide hN
  have HT := hide hT
  have HD := hide hD
  have HV := hide hV
  have HC := hide hc
  have HE := hide (show stepNum D.zs N T vs i = (⟨[40] ++ (N vs (nextB D.zs i 9).2).1.s ++ [41,32,47,32] ++ textB (1 + (nextB D.zs (N vs (nextB D.zs i 9).2).2 9).1).toNat,wrap64 ((N vs (nextB D.zs i 9).2).1.v.tdiv (1 + (nextB D.zs (N vs (nextB D.zs i 9).2).2 9).1))⟩,(nextB D.zs (N vs (nextB D.zs i 9).2).2 9).2) by simp [stepNum,hc])
  clear hN hT hD hV hc
  have e0 : ((d : Int) + 1 == 0) = false := by simp; omega
  go_enter Tryz.func14,Tryz.ntmps14
  go_wp2_with fail
  refine (next_any D i _ (by exact HD.out.alloc _) 9 (by omega) (by omega)).mono ?_
  rintro e w1 ⟨rfl,hb1,hd1⟩
  rw [HC.out]
  generalize hi1 : (nextB D.zs i 9).2 = i1 at *
  have HB1 := hide ((But.of_below ((Below.refl _ _).alloc (Nat.le_refl _) _)).trans hb1)
  have HZ1 := hide (res_block hb1 h1)
  have HD1 := hide hd1
  have HV1 := hide (HV.out.but HB1.out)
  have hs1 := hb1.size
  simp at hs1
  clear hb1 hd1 hi1
  go_wp2_with fail
  refine (HN.out vs v i1 _ (by exact HD1.out) (by exact HV1.out) (by omega)).mono ?_
  rintro e w2 ⟨rfl,hb,hd',hlenw2⟩
  generalize hr : N vs i1 = ra at *
  have hsw2 := hb.size
  have HB2 := hide (HB1.out.trans hb)
  have HZ2 := hide ((hb.block _ (lt_of_some HZ1.out) (by omega)).trans HZ1.out)
  have HD2 := hide hd'
  clear hb hd' hr
  unfold mkVal
  go_wp2_with fail
  refine (next_any D ra.2 _ (by exact HD2.out.alloc _) 9 (by omega) (by omega)).mono ?_
  rintro e w3 ⟨rfl,hb,hd'⟩
  have hbd := nextB_bd D.zs ra.2 9 (by omega)
  obtain ⟨q,hq⟩ : ∃ q : Nat,(q : Int) = (nextB D.zs ra.2 9).1 := ⟨(nextB D.zs ra.2 9).1.toNat,by omega⟩
  rw [← hq] at hbd HE ⊢
  have HB3 := hide ((HB2.out.alloc _).trans hb)
  have HZ3 := hide ((hb.block w.heap.size (by simp; omega) (by omega)).trans (block_alloc HZ2.out _))
  have HA3 := hide ((hb.block w2.heap.size (by simp) (by omega)).trans (block_new w2 _))
  have HD3 := hide hd'
  have hsw3 := hb.size
  simp at hsw3
  generalize hi2 : (nextB D.zs ra.2 9).2 = i2 at *
  clear hb hd' hq hi2
  have l0 := cell_block HA3.out 0
  have l1 := cell_block HA3.out 1
  have ls := lt_of_some HA3.out
  have zs := lt_of_some HZ3.out
  simp at l0 l1
  have hq1 : ((1 + (q : Int)) == 0) = false := by simp; omega
  have htl := textB_len (1 + q)
  rw [show (1 + (q : Int)).toNat = 1 + q by omega] at HE
  have hq2 : ¬ (1 + (q : Int)) = 0 := by omega
  have hq9 : q < 9 := by omega
  have n1 : ¬ w2.heap.size = w.heap.size := by omega
  have n2 : ¬ w.heap.size = w2.heap.size := by omega
  have f1 : ¬ 9223372036854775807 < 1 + ra.1.s.length := by omega
  have f2 : ¬ 9223372036854775807 < 1 + ra.1.s.length + 4 := by omega
  have f3 : ¬ 9223372036854775807 < 1 + ra.1.s.length + 4 + (textB (1 + q)).length := by omega
  go_wp2_with fail
  go_region_held3 (fun w' => w'.cell? ⟨w2.heap.size,0,none⟩ = some (.string ⟨ra.1.s.toArray⟩) ∧ w'.cell? ⟨w2.heap.size,1,none⟩ = some (.int .i64 ra.1.v)) (go_keep)
    (first
      | (go_at_call 29; refine (text_more q _ hq9).mono ?_; rintro e w4 ⟨rfl,hb⟩; have HA4 := hide ((hb.block w2.heap.size ls).trans HA3.out); have HZ4 := hide ((hb.block w.heap.size zs).trans HZ3.out); have m0 := cell_block HA4.out 0; have m1 := cell_block HA4.out 1; have ms := lt_of_some HA4.out; have y0 := cell_block HZ4.out 0; have y1 := cell_block HZ4.out 1; have yf := free_block HZ4.out; have ys := lt_of_some HZ4.out; simp at m0 m1 y0 y1; have HB4 := hide hb; clear hb))
  all_goals
    go_wp2
    rw [HE.out]
    refine bodyPost_ret (v := .agg #[.string (((⟨[40].toArray⟩ ++ ⟨ra.1.s.toArray⟩) ++ ⟨[41,32,47,32].toArray⟩) ++ ⟨(textB (1 + q)).toArray⟩),.int .i64 (wrap64 (ra.1.v.tdiv (1 + (q : Int))))]) (by simp [results,Tryz.results14,go_sem,y0,y1,ys]; try exact wrapI _) rfl
      ⟨by rw [join4]; rfl,(((HB3.out.drew.trans (But.of_below HB4.out)).setCell (p := ⟨w.heap.size,0,none⟩) (Or.inr (Nat.le_refl _)) _).setCell (p := ⟨w.heap.size,1,none⟩) (Or.inr (Nat.le_refl _)) _),(((HD3.out.below ((Below.refl _ _).drew)).below HB4.out).set w.heap.size 0 _ h1).set w.heap.size 1 _ h1,?_⟩
    simp only [List.length_append,List.length_cons,List.length_nil,Nat.pow_succ]
    omega
end Go.Proofs.YtpmmjkiclngpmaaGreatDoor
