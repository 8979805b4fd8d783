/- YtpmmjkiclngpmaaGreatDoorV14 -/
import Derived.Test.YtpmmjkiclngpmaaGreatDoorV13
import Derived.Deep.RegionWith
set_option maxRecDepth 100000
set_option linter.unusedSimpArgs false
set_option linter.unusedVariables false
set_option maxHeartbeats 12800000
namespace Go.Proofs.YtpmmjkiclngpmaaGreatDoor
open Go.RowKit
set_option maxHeartbeats 25600000 in
theorem spared_any (w : World) (ao : Option Addr) (b off cap : Nat) (zs : List Int) (hc : ∀ j,(h : j < zs.length) → w.cell? ⟨b,off + j,none⟩ = some (.int .i64 zs[j])) (ha : ao = some ⟨b,off,none⟩ ∨ zs = []) (hbw : b < w.heap.size)
    (hwf : ∀ z ∈ zs,-9223372036854775808 ≤ z ∧ z ≤ 9223372036854775807) (hlen : zs.length ≤ 140737488355328) (hT : Tab w) :
    Calls Tryz.prog 10 #[.slice ao zs.length cap] w fun e w' => e = .returned (.bool true) ∧ Below w.heap.size w w' := by
  have HBg := hide (began_any w)
  have HC := hide hc
  have HA := hide ha
  have HWf := hide hwf
  have HTb := hide hT
  clear hc ha hwf hT
  go_enter Tryz.func10,Tryz.ntmps10
  go_wp2_with fail
  refine HBg.out.mono ?_
  rintro e w1 ⟨p,rfl,hg⟩
  have HG := hide hg
  have hs1 := hg.bel.size
  clear hg
  obtain ⟨W,hW⟩ : ∃ W,W = ((w1.alloc (.cells #[.slice ao zs.length cap,.int .i64 0] 30)).alloc (.cells #[.int .i64 0,.int .i64 0,.int .i64 0,.int .i64 0] 50)).alloc (.cells #[.bool false,.bool false,.bool false,.bool false] 51) := ⟨_,rfl⟩
  have hb3 : Below w1.heap.size w1 W := by rw [hW]; exact (((Below.refl _ _).alloc (Nat.le_refl _) _).alloc (by simp) _).alloc (by simp; omega) _
  have hd3 : W.heap[w1.heap.size]? = some (.cells #[.slice ao zs.length cap,.int .i64 0] 30 (0,0)) := by rw [hW]; exact block_alloc (block_alloc (block_new _ _) _) _
  have hn3 : W.heap[w1.heap.size + 1]? = some (.cells (vals4 fun _ => 0) 50 (0,0)) := by
    rw [hW]
    have := block_new (w1.alloc (.cells #[.slice ao zs.length cap,.int .i64 0] 30)) (.cells #[.int .i64 0,.int .i64 0,.int .i64 0,.int .i64 0] 50)
    refine block_alloc ?_ _
    rw [show (w1.alloc (.cells #[.slice ao zs.length cap,.int .i64 0] 30)).heap.size = w1.heap.size + 1 by simp] at this
    exact this
  have ht3 : W.heap[w1.heap.size + 1 + 1]? = some (.cells (bools4 fun _ => false) 51 (0,0)) := by
    rw [hW]
    have := block_new ((w1.alloc (.cells #[.slice ao zs.length cap,.int .i64 0] 30)).alloc (.cells #[.int .i64 0,.int .i64 0,.int .i64 0,.int .i64 0] 50)) (.cells #[.bool false,.bool false,.bool false,.bool false] 51)
    rw [show ((w1.alloc (.cells #[.slice ao zs.length cap,.int .i64 0] 30)).alloc (.cells #[.int .i64 0,.int .i64 0,.int .i64 0,.int .i64 0] 50)).heap.size = w1.heap.size + 1 + 1 by simp] at this
    exact this
  have hst := HG.out.st
  have hlt1 : ∀ k,p.own k → k < w1.heap.size := fun k hk => hst.lt hk
  have HOw := hide (show ∀ k,p.own k → w.heap.size ≤ k ∧ k < w1.heap.size from fun k hk => ⟨HG.out.own k hk,hlt1 k hk⟩)
  have HEx := hide HG.out.ex
  have HS0 := hide (show Sf w ⟨w1.heap.size,ao,b,off,cap,zs⟩ p (w1.heap.size + 1) (w1.heap.size + 1 + 1) [] from
    ⟨fun k hk => by have h1 := HG.out.own k hk; have h2 := hlt1 k hk; exact ⟨h1,by omega,by omega,by show k ≠ w1.heap.size; omega,fun x hx => by cases hx⟩,HG.out.ex,by omega,by omega,hs1,by omega,by show w1.heap.size + 1 ≠ w1.heap.size; omega,by show w1.heap.size + 1 + 1 ≠ w1.heap.size; omega,fun x hx => (by cases hx),hbw⟩)
  have HF0 := hide (show Sq w ⟨w1.heap.size,ao,b,off,cap,zs⟩ p (w1.heap.size + 1) (w1.heap.size + 1 + 1) [] (fun _ => 0) (fun _ => false) begS5 W from
    ⟨hst.below hb3,hn3,ht3,fun x hx => (by cases hx),⟨0,hd3,fun j hj => (below_cell (HG.out.bel.trans (hb3.mono hs1)) hbw (off + j)).trans (HC.out j hj),HA.out,by show b ≠ w1.heap.size; omega,by show b < w1.heap.size; omega,HWf.out,Nat.zero_le _,hlen⟩,HG.out.bel.trans (hb3.mono hs1)⟩)
  have HW := hide hW
  clear hb3 hd3 hn3 ht3 hst hlt1
  go_wp2
  rw [← HW.out]
  clear hW HW HC HA HWf HBg HG
  obtain ⟨vb,hvb⟩ : ∃ vb,vb = w1.heap.size + 1 := ⟨_,rfl⟩
  obtain ⟨bb,hbb⟩ : ∃ bb,bb = w1.heap.size + 1 + 1 := ⟨_,rfl⟩
  obtain ⟨xb,hxb⟩ : ∃ xb,xb = w1.heap.size := ⟨_,rfl⟩
  rw [← hbb,← hvb] at HS0 HF0 ⊢
  rw [← hxb] at HS0 HF0 HOw ⊢
  have hord : xb < vb ∧ vb < bb := by omega
  clear hvb hbb hxb
  generalize hDD : (⟨xb,ao,b,off,cap,zs⟩ : Dp) = D at *
  have hDx : D.xb = xb := by rw [← hDD]
  rw [← hDx] at hord HOw ⊢
  clear hDD hDx
  go_loopw [7] (fun i wr => ∃ (c : Nat) (vs : Nat → Nat) (bs : Nat → Bool),c ≤ 4 ∧ i = .int .i64 c ∧ Hid (Sq w D p vb bb [] vs bs begS5 wr) ∧ Hid (∀ i,vs i < 100)) (fun i _ => 4 - (intOf i).toNat)
  case atStart => exact ⟨0,fun _ => 0,fun _ => false,by omega,rfl,HF0,hide (fun i => by show (0 : Nat) < 100; omega)⟩
  obtain ⟨c,vs,bs,hc,rfl,HF,HVs⟩ := hrel
  by_cases hlt : c < 4
  · have hc4 : (c : Int) < 4 := by omega
    have hc0 : (0 : Int) ≤ (c : Int) := by omega
    go_wp2_with fail
    refine (next_sq HS0.out HF.out 100 _ rfl (by omega) (by omega)).mono ?_
    rintro e w3 ⟨v,hv,rfl,hF3,-⟩
    have HF3 := hide hF3
    have ff := free_block hF3.vbk
    have cv := vals_at hF3.vbk hlt
    have lv := lt_of_some hF3.vbk
    have HF4 := hide (hF3.setV HS0.out hlt v)
    clear hF3
    go_wp2_with fail
    refine (next_sq HS0.out HF4.out 2 _ rfl (by omega) (by omega)).mono ?_
    rintro e w5 ⟨t,ht,rfl,hF5,-⟩
    have HF5 := hide hF5
    have gf := free_block hF5.bbk
    have cb := bools_at hF5.bbk hlt
    have lb := lt_of_some hF5.bbk
    have HF6 := hide (hF5.setB HS0.out hlt ((t : Int) == 1))
    clear hF5 ff cv lv
    go_wp2
    go_roundw
    case rel => exact ⟨c + 1,_,_,by omega,by go_num,HF6,hide (fun i => by unfold updN; have := HVs.out i; split <;> omega)⟩
    case measure => simp [intOf]; omega
  have hce : c = 4 := by omega
  subst hce
  go_wp2_with fail
  refine (next_sq HS0.out HF.out 16 _ rfl (by omega) (by omega)).mono ?_
  rintro e w3 ⟨u0,hu0,rfl,hF3,-⟩
  have HF3 := hide hF3
  clear hF3
  go_wp2_with fail
  refine (next_sq HS0.out HF3.out 16 _ rfl (by omega) (by omega)).mono ?_
  rintro e w4 ⟨u1,hu1,rfl,hF4,-⟩
  have HF4 := hide hF4
  clear hF4 HF3
  go_wp2_with fail
  refine (next_sq HS0.out HF4.out 16 _ rfl (by omega) (by omega)).mono ?_
  rintro e w5 ⟨u2,hu2,rfl,hF5,-⟩
  have HF5 := hide hF5
  clear hF5 HF4
  obtain ⟨u,hue⟩ : ∃ u : Nat → Nat,u = fun j => if j = 0 then u0 else if j = 1 then u1 else u2 := ⟨_,rfl⟩
  have hu : ∀ j,u j < 16 := fun j => by rw [hue]; simp only; split <;> (try split) <;> omega
  have e0 : u0 = u 0 := by rw [hue]; rfl
  have e1 : u1 = u 1 := by rw [hue]; rfl
  have e2 : u2 = u 2 := by rw [hue]; rfl
  clear hue
  subst e0 e1 e2
  clear hu0 hu1 hu2
  have HU := hide hu
  clear hu
  have lb5 := lt_of_some HF5.out.bbk
  have lw5 := HF5.out.bel.size
  have HX1 := hide (show Sf w D p vb bb [(w5.heap.size,usO u),(w5.heap.size + 1,nmO3)] from
    ⟨fun k hk => by
      have h1 := HOw.out k hk
      refine ⟨h1.1,by omega,by omega,by omega,fun x hx => ?_⟩
      simp only [List.mem_cons,List.not_mem_nil,or_false] at hx
      rcases hx with rfl | rfl
      · show k ≠ w5.heap.size; omega
      · show k ≠ w5.heap.size + 1; omega,HEx.out,HS0.out.vl,HS0.out.bl,HS0.out.xl,HS0.out.n1,HS0.out.n2,HS0.out.n3,fun x hx => by
      simp only [List.mem_cons,List.not_mem_nil,or_false] at hx
      rcases hx with rfl | rfl
      · show w5.heap.size ≠ vb ∧ w5.heap.size ≠ bb ∧ w5.heap.size ≠ D.xb; omega
      · show w5.heap.size + 1 ≠ vb ∧ w5.heap.size + 1 ≠ bb ∧ w5.heap.size + 1 ≠ D.xb; omega,HS0.out.old⟩)
  have HFA := hide (show Sq w D p vb bb [(w5.heap.size,usO u),(w5.heap.size + 1,nmO3)] vs bs begS5 ((w5.alloc (.cells (usA u) 53)).alloc (.cells nmA 54)) from by
    have h := HF5.out.below (((Below.refl _ w5).alloc (Nat.le_refl _) (.cells (usA u) 53)).alloc (by simp) (.cells nmA 54))
    refine ⟨h.st,h.vbk,h.bbk,fun x hx => ?_,h.dc,h.bel⟩
    simp only [List.mem_cons,List.not_mem_nil,or_false] at hx
    rcases hx with rfl | rfl
    · exact block_alloc (block_new _ _) _
    · have := block_new (w5.alloc (.cells (usA u) 53)) (.cells nmA 54)
      simpa using this)
  obtain ⟨⟨x0,x1,x2,x3,lx⟩,y0,y1,y2,y3,ly⟩ := HFA.out.cells
  obtain ⟨⟨z0,z1,z2,z3,lz⟩,t0,t1,t2,t3,lt5⟩ := HF5.out.cells
  obtain ⟨a1,a2,a3,a4,a5,c1,c2,hP⟩ := spared_states1 (u := u) (vs := vs) (bs := bs) (fun i _ => by have := HVs.out i; omega)
  have HP := hide hP
  have hv4 : ∀ i,i < 4 → vs i < 1000 := fun i _ => by have := HVs.out i; omega
  have HL0 := hide (lib_len vs bs hv4)
  have HLib := hide (fun w => library_any hv4 bs w)
  clear hP hv4 HS0 HF HF0
  go_wp2_with fail
  refine (HLib.out _).mono ?_
  rintro e w6 ⟨rfl,hb6⟩
  have HF6 := hide (HFA.out.below hb6)
  clear hb6 HFA x0 x1 x2 x3 lx y0 y1 y2 y3 ly z0 z1 z2 z3 lz t0 t1 t2 t3 lt5 HF5
  obtain ⟨ub,hub⟩ : ∃ ub,ub = w5.heap.size := ⟨_,rfl⟩
  obtain ⟨nb,hnb⟩ : ∃ nb,nb = w5.heap.size + 1 := ⟨_,rfl⟩
  rw [← hnb,← hub] at HF6 HX1 ⊢
  clear hub hnb lb5 lw5
  go_wp2_with fail
  refine (HF6.out.set HX1.out (n := Lb) (t := libT vs bs) (by simp) (by have := HL0.out; omega) HP.out.e1).mono ?_
  rintro e w7 ⟨rfl,hF7,-⟩
  have HF7 := hide hF7
  clear hF7 HF6
  go_wp2_with fail
  refine (HF7.out.set HX1.out (n := Ns) (t := nonT none) (by simp) (by have := non_len nz0; omega) HP.out.e2).mono ?_
  rintro e w8 ⟨rfl,hF8,-⟩
  have HF8 := hide hF8
  clear hF8 HF7
  have HSets := hide (show ∀ j,j < 3 → setS (st5 a2 a3 a4 a5 j) (nmC j) (cliT (bitO (u j) bs)) = (0,st5 a2 a3 a4 a5 (j + 1)) from fun j hj => by
    rcases three hj with rfl | rfl | rfl
    · exact HP.out.e3
    · exact HP.out.e4
    · exact HP.out.e5)
  go_wp2
  go_loopw [10,12] (fun okv i wr => ∃ j : Nat,j ≤ 3 ∧ okv = .bool true ∧ i = .int .i64 j ∧ Hid (Sq w D p vb bb [(ub,usO u),(nb,nmO3)] vs bs (st5 a2 a3 a4 a5 j) wr)) (fun _ i _ => 3 - (intOf i).toNat)
  case atStart => exact ⟨0,by omega,rfl,rfl,HF8⟩
  obtain ⟨j,hj,rfl,rfl,HFj⟩ := hrel
  by_cases hj3 : j < 3
  · have hji : (j : Int) < 3 := by omega
    have hj0 : (0 : Int) ≤ (j : Int) := by omega
    obtain ⟨_,y0,y1,y2,y3,ly⟩ := HFj.out.cells
    obtain ⟨g0,g1,g2,g3⟩ := HFj.out.client hj3
    have HSj := hide (HSets.out j hj3)
    have HCj := hide (fun w => client_any (u j) (HU.out j) bs w)
    have HLj := hide (cli_len (bitO (u j) bs))
    have hn1 := nmC_len j
    go_wp2
    go_region_held3 (fun w' => w'.cell? ⟨nb,j,none⟩ = some (.string ⟨(nmC j).toArray⟩) ∧ w'.cell? ⟨ub,j,none⟩ = some (.int .i64 (u j)) ∧ w'.cell? ⟨bb,0,none⟩ = some (.bool (bs 0)) ∧ w'.cell? ⟨bb,1,none⟩ = some (.bool (bs 1)) ∧ w'.cell? ⟨bb,2,none⟩ = some (.bool (bs 2)) ∧ w'.cell? ⟨bb,3,none⟩ = some (.bool (bs 3))) (go_keep)
      (first
        | (go_at_call 24; refine (HCj.out _).mono ?_; rintro e w9 ⟨rfl,hb9⟩; have HF9 := hide (HFj.out.below (undrewB hb9)); obtain ⟨_,k0,k1,k2,k3,kl⟩ := HF9.out.cells; obtain ⟨h0,h1,h2,h3⟩ := HF9.out.client hj3; clear hb9)
        | (go_at_call 15; refine (HF9.out.set HX1.out (n := nmC j) (t := cliT (bitO (u j) bs)) (by omega) (by have := HLj.out; omega) HSj.out).mono ?_; rintro e wa ⟨rfl,hFa,-⟩; have HFa := hide hFa; obtain ⟨_,m0,m1,m2,m3,ml⟩ := HFa.out.cells; obtain ⟨o0,o1,o2,o3⟩ := HFa.out.client hj3; clear hFa))
    all_goals
      go_wp2
      go_roundw
      case rel => exact ⟨j + 1,by omega,rfl,by go_num,HFa⟩
      case measure => simp [intOf]; omega
  have hje : j = 3 := by omega
  subst hje
  have HFk := hide (show Sq w D p vb bb [(ub,usO u),(nb,nmO3)] vs bs a5 wr from HFj.out)
  clear HFj HF8 HSets HLib HL0 hj hj3
  go_wp2_with fail
  refine (HFk.out.clean HX1.out HP.out.m5 HP.out.d1 HP.out.b1).mono ?_
  rintro e wA ⟨rfl,hFA⟩
  have HFA := hide hFA
  clear hFA HFk
  go_wp2_with fail
  refine ((HFA.out.below ((Below.refl _ _).alloc (Nat.le_refl _) _)).compiled HP.out.l1 (txs_new wA [[97],[99],Lb,Ns,[122]] (by decide) 5 rfl _ rfl)).mono ?_
  rintro e wB ⟨rfl,hFB,-⟩
  have HFB := hide hFB
  clear hFB HFA
  go_wp2_with fail
  refine (HFB.out.clean HX1.out HP.out.n1 HP.out.d2 HP.out.b2).mono ?_
  rintro e wC ⟨rfl,hFC⟩
  have HFC := hide hFC
  clear hFC HFB
  go_wp2_with fail
  refine (HFC.out.compiled HP.out.l2 (txs_nil _)).mono ?_
  rintro e wD ⟨rfl,hFD,-⟩
  have HFD := hide hFD
  clear hFD HFC
  go_wp2_with fail
  refine (next_sq HX1.out HFD.out 4 _ rfl (by omega) (by omega)).mono ?_
  rintro e wE ⟨k,hk,rfl,hFE,-⟩
  have HFE := hide hFE
  have hk0 : (0 : Int) ≤ (k : Int) := by omega
  have hk4 : (k : Int) < 4 := by omega
  have cE := vals_at hFE.vbk hk
  have lE := lt_of_some hFE.vbk
  have hvk := HVs.out k
  have q1 : IntKind.i64.wrap ((vs k : Int) + 1) = (vs k : Int) + 1 := wrap_id _ (by omega) (by omega)
  clear hFE HFD
  go_wp2
  go_cut [] from 118 to 126 (fun wx => ∃ d : Nat,d < 50 ∧ Hid (Sq w D p vb bb [(ub,usO u),(nb,nmO3)] (updN vs k (vs k + 1 + d)) bs c2 wx))
  case first =>
    go_region_with (go_at_call 22; refine (next_sq HX1.out (HFE.out.below ((Below.refl _ _).drew)) 50 _ rfl (by omega) (by omega)).mono ?_; rintro e wF ⟨d,hd,rfl,hFF,-⟩; have HFF := hide hFF; have cF := vals_at hFF.vbk hk; have lF := lt_of_some hFF.vbk; have fF := free_block hFF.vbk; have q2 : IntKind.i64.wrap ((vs k : Int) + 1 + (d : Int)) = (vs k : Int) + 1 + (d : Int) := wrap_id _ (by omega) (by omega); clear hFF)
    all_goals
      go_wp2
      go_meet
      case rel => exact ⟨d,hd,by
        have := HFF.out.setV HX1.out hk (vs k + 1 + d)
        rw [show ((vs k + 1 + d : Nat) : Int) = (vs k : Int) + 1 + (d : Int) by omega] at this
        exact hide this⟩
  obtain ⟨d,hd,HFG⟩ := hcut
  obtain ⟨a6,c3,a7,c4,a8,c5,a9,c6,hQ⟩ := spared_states2 (u := u) (vs := vs) (bs := bs) (k := k) (v := vs k + 1 + d) hk (fun i _ => by have := HVs.out i; omega) (by omega) (by omega) HP.out.at2 HP.out.n2
  have HV2 := hide (show ∀ i,i < 4 → updN vs k (vs k + 1 + d) i ≤ 1000 from fun i _ => by have := HVs.out i; unfold updN; split <;> omega)
  have HVx := hide (show ∀ i,i < 4 → updN vs k (vs k + 1 + d) i < 1000 from fun i _ => by have := HVs.out i; unfold updN; split <;> omega)
  have HE6 := hide hQ.e6
  have HE7 := hide hQ.e7
  have HE8 := hide hQ.e8
  have HE9 := hide hQ.e9
  have HR3 := hide hQ.run3
  have HR6 := hide hQ.run6
  have HQ := hide hQ
  clear hQ HFE cE lE q1 HP HVs hvk
  generalize updN vs k (vs k + 1 + d) = vt at *
  have HLib := hide (fun w => library_any HVx.out bs w)
  have HLib2 := hide (fun w => library_any HVx.out (flp bs k) w)
  have HL1 := hide (lib_len vt bs HVx.out)
  have HL2 := hide (lib_len vt (flp bs k) HVx.out)
  obtain ⟨⟨x0,x1,x2,x3,lx⟩,y0,y1,y2,y3,ly⟩ := HFG.out.cells
  go_wp2_with fail
  refine (HLib.out _).mono ?_
  rintro e wH ⟨rfl,hb⟩
  have HFH := hide (HFG.out.below hb)
  clear hb HFG x0 x1 x2 x3 lx y0 y1 y2 y3 ly
  go_wp2_with fail
  refine (HFH.out.set HX1.out (n := Lb) (t := libT vt bs) (by simp) (by have := HL1.out; omega) HE6.out).mono ?_
  rintro e wI ⟨rfl,hF,-⟩
  have HFI := hide hF
  clear hF HFH
  go_wp2_with fail
  refine (HFI.out.clean HX1.out HQ.out.m6 HQ.out.d3 HQ.out.b3).mono ?_
  rintro e wJ ⟨rfl,hF⟩
  have HFJ := hide hF
  clear hF HFI
  go_wp2_with fail
  refine ((HFJ.out.below ((Below.refl _ _).alloc (Nat.le_refl _) _)).compiled HQ.out.l3 (txs_new wJ [Lb] (by decide) 1 rfl _ rfl)).mono ?_
  rintro e wK ⟨rfl,hF,-⟩
  have HFK := hide hF
  clear hF HFJ
  have HO3 := hide HQ.out.r3
  go_wp2
  go_loopw [10,19] (fun okv i wr => ∃ j : Nat,j ≤ 3 ∧ okv = .bool true ∧ i = .int .i64 j ∧ Hid (Sq w D p vb bb [(ub,usO u),(nb,nmO3)] vt bs c3 wr)) (fun _ i _ => 3 - (intOf i).toNat)
  case atStart => exact ⟨0,by omega,rfl,rfl,HFK⟩
  obtain ⟨j,hj,rfl,rfl,HFj⟩ := hrel
  by_cases hj3 : j < 3
  · have hji : (j : Int) < 3 := by omega
    have hj0 : (0 : Int) ≤ (j : Int) := by omega
    obtain ⟨g0,g1,g2,g3⟩ := HFj.out.client hj3
    go_wp2_with fail
    refine (HFj.out.run HO3.out (HR3.out j hj3)).mono ?_
    rintro e wR ⟨rfl,hFR⟩
    have HFR := hide hFR
    obtain ⟨⟨x0,x1,x2,x3,lx⟩,-⟩ := hFR.cells
    obtain ⟨h0,h1,h2,h3⟩ := hFR.client hj3
    have HTt := hide (fun w => total_tot (u j) (HU.out j) bs vt HV2.out w)
    clear hFR g0 g1 g2 g3
    go_wp2
    go_region_held3 (fun w' => w'.cell? ⟨ub,j,none⟩ = some (.int .i64 (u j)) ∧ w'.cell? ⟨vb,0,none⟩ = some (.int .i64 (vt 0)) ∧ w'.cell? ⟨vb,1,none⟩ = some (.int .i64 (vt 1)) ∧ w'.cell? ⟨vb,2,none⟩ = some (.int .i64 (vt 2)) ∧ w'.cell? ⟨vb,3,none⟩ = some (.int .i64 (vt 3))) (go_keep)
      (first
        | (go_at_call 26; refine (HTt.out _).mono ?_; rintro e wS ⟨rfl,hbS⟩; have HFS := hide (HFR.out.below (undrewB hbS)); obtain ⟨⟨k0,k1,k2,k3,kl⟩,-⟩ := HFS.out.cells; obtain ⟨m0,m1,m2,m3⟩ := HFS.out.client hj3; clear hbS))
    all_goals
      go_wp2
      go_roundw
      case rel => exact ⟨j + 1,by omega,rfl,by go_num,HFS⟩
      case measure => simp [intOf]; omega
  have hje : j = 3 := by omega
  subst hje
  have HFL := hide HFj.out
  clear HFj HR3 HO3 HFK hj hj3 HLib HL1
  have cL := bools_at HFL.out.bbk hk
  have lL := lt_of_some HFL.out.bbk
  have fL := free_block HFL.out.bbk
  have HFM := hide (show Sq w D p vb bb [(ub,usO u),(nb,nmO3)] vt (flp bs k) c3 (wr.setCell ⟨bb,k,none⟩ (.bool (!bs k))) by have := HFL.out.setB HX1.out hk (!bs k); rw [flp_set] at this; exact this)
  go_upto_region 39 with fail
  go_cut [] from 173 to 178 (fun wx => Hid (Sq w D p vb bb [(ub,usO u),(nb,nmO3)] vt (flp bs k) c3 wx))
  case first =>
    go_wp2
    go_meet
    case rel => exact HFM
  have HFN := hide hcut.out
  clear hcut HFM HFL cL lL fL
  obtain ⟨⟨x0,x1,x2,x3,lx⟩,y0,y1,y2,y3,ly⟩ := HFN.out.cells
  go_wp2_with fail
  refine (HLib2.out _).mono ?_
  rintro e wN ⟨rfl,hb⟩
  have HFO := hide (HFN.out.below hb)
  clear hb HFN x0 x1 x2 x3 lx y0 y1 y2 y3 ly
  go_wp2_with fail
  refine (HFO.out.set HX1.out (n := Lb) (t := libT vt (flp bs k)) (by simp) (by have := HL2.out; omega) HE7.out).mono ?_
  rintro e wO ⟨rfl,hF,-⟩
  have HFP := hide hF
  clear hF HFO HLib2 HL2
  go_wp2_with fail
  refine (build_any HFP.out.st HX1.out.ex HQ.out.m7).mono ?_
  rintro e wz ⟨dv,rfl,hbz,hsz,hdz⟩
  have HFZ := hide (HFP.out.store HX1.out hbz (by rw [HQ.out.b4] at hsz; exact hsz))
  have HDz := hide hdz
  have HD4 := hide HQ.out.d4
  obtain ⟨so,sc,hdv⟩ := owns_shape' hdz
  subst hdv
  clear hbz hsz hdz HFP
  generalize (buildS a7).1 = dg at *
  obtain ⟨i0,hi,hz0,hz1,hz2⟩ := info_parts info_str
  go_wp2
  go_loopw [23,24,25] (fun wv hv iv wr => ∃ j : Nat,j ≤ 3 ∧ hv = .int .i64 (hitN u k j : Nat) ∧ iv = .int .i64 j ∧ Hid (Below wz.heap.size wz wr) ∧ Hid (wr.ownsRow wz.heap.size 9 1 wv (wantN u k Lb j).length (strCs (wantN u k Lb j)))) (fun _ _ iv _ => 3 - (intOf iv).toNat)
  case atStart => exact ⟨0,by omega,rfl,rfl,hide (Below.refl _ _),hide (World.ownsRow_nil _ _ _ _)⟩
  obtain ⟨j,hj,rfl,rfl,HBr,HRow⟩ := hrel
  by_cases hj3 : j < 3
  · have hji : (j : Int) < 3 := by omega
    have hj0 : (0 : Int) ≤ (j : Int) := by omega
    have HFr := hide (HFZ.out.below HBr.out)
    obtain ⟨g0,g1,g2,g3⟩ := HFr.out.client hj3
    obtain ⟨so2,sc2,hsv⟩ := owns_shape' HRow.out
    subst hsv
    have hwl := wantN_le u k Lb j
    have hsr := HBr.out.size
    have hhj := hitN_le u k j
    generalize hwj : wantN u k Lb j = lj at *
    have HWj := hide hwj
    clear hwj
    by_cases h2 : j = 2
    · have h2i : ((j : Int) == 2) = true := by rw [h2]; rfl
      have HH2 := hide h2
      clear h2
      go_wp2_with (at_builtin; refine app_where _ rfl _ _ 58 rfl wz.heap.size 9 i0 (.string ⟨#[]⟩) 1 16 Tryz.underlying58 hi hz0 hz1 hz2 rfl (by decide) _ _ _ rfl (HRow.out.alloc _) ⟨wr.heap.size,0,none⟩ 1 1 [.string ⟨(Lb).toArray⟩] rfl rfl (fun j u hj => newp_cells wr _ _ j u hj) (by intro u hu; simp at hu; subst hu; rfl) (by omega) (by unfold maxLen; omega) (by omega) (by simp; omega) ?_)
      intro g7 cap7 w3' hown hgrow hwhere
      have HB3 := hide (want_grow HBr.out HRow.out hgrow)
      have HRow3 := hide (want_row (l' := lj ++ [Lb]) hown rfl rfl rfl)
      have hsr3 := HB3.out.size
      obtain ⟨l3,h3⟩ : ∃ l3,l3 = lj ++ [Lb] := ⟨_,rfl⟩
      rw [← h3] at HRow3
      have hl3 : l3.length = lj.length + 1 := by rw [h3]; simp
      rw [hl3] at HRow3
      have HL3 := hide hl3
      have H3 := hide h3
      clear hl3 h3
      have HF3 := hide (HFZ.out.below HB3.out)
      obtain ⟨n0,n1,n2,n3⟩ := HF3.out.client hj3
      clear hown hgrow hwhere
      by_cases hb : (u j / 2 ^ k) % 2 = 1
      · obtain ⟨hbt,hbb⟩ := bit_true (j := j) hb (HU.out j) hk
        have HHit := hide (show hitN u k (j + 1) = hitN u k j + 1 by simp [hitN,hbb])
        have HWn := hide (show wantN u k Lb (j + 1) = l3 ++ [nmC j] by have h2 := HH2.out; have hbb2 := hbb; rw [h2] at hbb2; rw [show j + 1 = 3 by omega,wantN_2,H3.out,← HWj.out,h2]; simp [hbb,hbb2,isC])
        clear hb hbb
        go_wp2_with (at_builtin; refine app_where _ rfl _ _ 58 rfl wz.heap.size 9 i0 (.string ⟨#[]⟩) 1 16 Tryz.underlying58 hi hz0 hz1 hz2 rfl (by decide) _ _ _ rfl (HRow3.out.alloc _) ⟨w3'.heap.size,0,none⟩ 1 1 [.string ⟨(nmC j).toArray⟩] rfl rfl (fun j u hj => newp_cells w3' _ _ j u hj) (by intro u hu; simp at hu; subst hu; rfl) (by omega) (by unfold maxLen; omega) (by omega) (by simp; omega) ?_)
        intro g8 cap8 w8' hown hgrow hwhere
        have HBn := hide (want_grow HB3.out HRow3.out hgrow)
        have HRn := hide (want_row hown HWn.out HL3.out rfl)
        clear hown hgrow hwhere
        go_wp2
        go_roundw
        case rel => exact ⟨j + 1,by omega,by rw [HHit.out]; go_num,by go_num,HBn,HRn⟩
        case measure => simp [intOf]; omega
      · obtain ⟨hbt,hbb⟩ := bit_false (j := j) hb (HU.out j) hk
        have HHit := hide (show hitN u k (j + 1) = hitN u k j by simp [hitN,hbb])
        have HWn := hide (show wantN u k Lb (j + 1) = l3 by have h2 := HH2.out; have hbb2 := hbb; rw [h2] at hbb2; rw [show j + 1 = 3 by omega,wantN_2,H3.out,← HWj.out,h2]; simp [hbb,hbb2,isC])
        have HRn := hide (show w3'.ownsRow wz.heap.size 9 1 _ (wantN u k Lb (j + 1)).length (strCs (wantN u k Lb (j + 1))) by rw [HWn.out,HL3.out]; exact HRow3.out)
        clear hb hbb
        go_wp2
        go_roundw
        case rel => exact ⟨j + 1,by omega,by rw [HHit.out],by go_num,HB3,HRn⟩
        case measure => simp [intOf]; omega
    · have h2i : ((j : Int) == 2) = false := by simpa using (show ¬ (j : Int) = 2 by omega)
      have HH2 := hide (show j < 2 by omega)
      clear h2
      by_cases hb : (u j / 2 ^ k) % 2 = 1
      · obtain ⟨hbt,hbb⟩ := bit_true (j := j) hb (HU.out j) hk
        have HHit := hide (show hitN u k (j + 1) = hitN u k j + 1 by simp [hitN,hbb])
        have HWn := hide (show wantN u k Lb (j + 1) = lj ++ [nmC j] by rw [wantN_lt u k Lb HH2.out,HWj.out]; simp [hbb,isC])
        clear hb hbb
        go_wp2_with (at_builtin; refine app_where _ rfl _ _ 58 rfl wz.heap.size 9 i0 (.string ⟨#[]⟩) 1 16 Tryz.underlying58 hi hz0 hz1 hz2 rfl (by decide) _ _ _ rfl (HRow.out.alloc _) ⟨wr.heap.size,0,none⟩ 1 1 [.string ⟨(nmC j).toArray⟩] rfl rfl (fun j u hj => newp_cells wr _ _ j u hj) (by intro u hu; simp at hu; subst hu; rfl) (by omega) (by unfold maxLen; omega) (by omega) (by simp; omega) ?_)
        intro g8 cap8 w8' hown hgrow hwhere
        have HBn := hide (want_grow HBr.out HRow.out hgrow)
        have HRn := hide (want_row hown HWn.out rfl rfl)
        clear hown hgrow hwhere
        go_wp2
        go_roundw
        case rel => exact ⟨j + 1,by omega,by rw [HHit.out]; go_num,by go_num,HBn,HRn⟩
        case measure => simp [intOf]; omega
      · obtain ⟨hbt,hbb⟩ := bit_false (j := j) hb (HU.out j) hk
        have HHit := hide (show hitN u k (j + 1) = hitN u k j by simp [hitN,hbb])
        have HWn := hide (show wantN u k Lb (j + 1) = lj by rw [wantN_lt u k Lb HH2.out,HWj.out]; simp [hbb,isC])
        have HRn := hide (show wr.ownsRow wz.heap.size 9 1 _ (wantN u k Lb (j + 1)).length (strCs (wantN u k Lb (j + 1))) by rw [HWn.out]; exact HRow.out)
        clear hb hbb
        go_wp2
        go_roundw
        case rel => exact ⟨j + 1,by omega,by rw [HHit.out],by go_num,HBr,HRn⟩
        case measure => simp [intOf]; omega
  have hje : j = 3 := by omega
  subst hje
  obtain ⟨so2,sc2,hsv⟩ := owns_shape' HRow.out
  subst hsv
  have HFz3 := hide (HFZ.out.below HBr.out)
  have HTx := hide (txs_own HRow.out)
  have HDr := hide (owns_keep HDz.out fun g e => HBr.out.block g (owns_in HDz.out g e).2)
  clear HBr HRow HDz HFZ
  go_wp2_with fail
  refine (HFz3.out.compiled HQ.out.l4 HTx.out).mono ?_
  rintro e wP ⟨rfl,hF,hb⟩
  have HFP := hide hF
  have HDp := hide (owns_keep HDr.out fun g e => hb.block g (owns_in HDr.out g e).2)
  clear hF hb HDr HTx HFz3
  go_wp2
  go_loopw [10,26] (fun okv i wr => ∃ j : Nat,j ≤ dg.length ∧ okv = .bool true ∧ i = .int .i64 j ∧ Hid (Below wP.heap.size wP wr)) (fun _ i _ => dg.length - (intOf i).toNat)
  case atStart => exact ⟨0,by omega,rfl,rfl,hide (Below.refl _ _)⟩
  obtain ⟨j,hj,rfl,rfl,HBq⟩ := hrel
  by_cases hlt : j < dg.length
  · obtain ⟨g1,q1,cu1,hk1,_,hk3,hk5,_⟩ := owr_shape HDp.out (by omega)
    simp only [Value.slice.injEq] at hk1
    obtain ⟨rfl,_,rfl⟩ := hk1
    have hg1 := lt_of_some hk3
    have hda := dgCells_at dg j hlt
    have x1 := cellB HBq.out hg1 ((owns_cell HDp.out (j * 3 + 1) (by omega)).trans hda.2.1)
    rw [HD4.out.2 _ (List.getElem_mem hlt)] at x1
    have hqs := HBq.out.size
    have hg1q : g1 < wr.heap.size := by omega
    have i1 : (0 : Int) ≤ (j : Int) := by omega
    have i2 : (j : Int) < (dg.length : Int) := by omega
    have hd3 := HD4.out.1
    have hd4 := hitsN_le u k
    clear hda hk3
    go_wp2
    go_roundw
    case rel => exact ⟨j + 1,by omega,rfl,by go_num,HBq⟩
    case measure => simp [intOf]; omega
  have hje : j = dg.length := by omega
  subst hje
  have HFQ := hide (HFP.out.below HBq.out)
  have HTq := hide (HTb.out.below HFQ.out.bel HTb.out.lt)
  have hdl : dg.length = hitN u k 3 := by rw [hit_all]; exact HD4.out.1
  have hhl := hitN_le u k 3
  have HT4 := hide (show imgT c4 = [] ↔ 0 < hitN u k 3 by rw [hit_all]; exact HQ.out.t4)
  have HIm := hide (HFQ.out.image HQ.out.i4 HTq.out)
  clear HBq HFP HDp HD4 hj hlt HTq
  generalize imgT c4 = tA at *
  generalize hitN u k 3 = hn at *
  go_wp2_with fail
  refine HIm.out.mono ?_
  rintro e wQ ⟨rfl,hF⟩
  have HFR := hide hF
  clear hF HIm HFQ
  go_upto_region 58 with fail
  go_cut [248] from 230 to 248 (fun c wx => c = .bool false ∧ Hid (Sq w D p vb bb [(ub,usO u),(nb,nmO3)] vt (flp bs k) c4 wx))
  case first =>
    have e1 : ((dg.length : Int) != (hn : Int)) = false := by rw [hdl]; simp
    rcases tA with _ | ⟨x,r⟩
    · have hp : 0 < hn := HT4.out.1 rfl
      have hp1 : (0 : Int) < (hn : Int) := by omega
      go_wp2
      go_meet
      case rel => exact ⟨rfl,HFR⟩
    · have hp : ¬ 0 < hn := fun h => by have := HT4.out.2 h; cases this
      have HHp := hide hp
      clear hp
      go_wp2
      go_meet
      case rel => exact ⟨congrArg Value.bool (decide_eq_false HHp.out),HFR⟩
  obtain ⟨rfl,HFS⟩ := hcut
  clear HFR HT4
  have cS := bools_at HFS.out.bbk hk
  have lS := lt_of_some HFS.out.bbk
  have fS := free_block HFS.out.bbk
  have HFT := hide (show Sq w D p vb bb [(ub,usO u),(nb,nmO3)] vt bs c4 (wc.setCell ⟨bb,k,none⟩ (.bool (!flp bs k k))) by have := HFS.out.setB HX1.out hk (!flp bs k k); rw [flp_set,flp_flp] at this; exact this)
  go_upto_region 60 with fail
  go_cut [] from 249 to 254 (fun wx => Hid (Sq w D p vb bb [(ub,usO u),(nb,nmO3)] vt bs c4 wx))
  case first =>
    go_wp2
    go_meet
    case rel => exact HFT
  have HFU := hide hcut.out
  clear hcut HFT HFS cS lS fS
  obtain ⟨⟨x0,x1,x2,x3,lx⟩,y0,y1,y2,y3,ly⟩ := HFU.out.cells
  have HLib := hide (fun w => library_any HVx.out bs w)
  have HL1 := hide (lib_len vt bs HVx.out)
  go_wp2_with fail
  refine (HLib.out _).mono ?_
  rintro e wU ⟨rfl,hb⟩
  have HFV := hide (HFU.out.below hb)
  clear hb HFU x0 x1 x2 x3 lx y0 y1 y2 y3 ly HLib
  go_wp2_with fail
  refine (HFV.out.set HX1.out (n := Lb) (t := libT vt bs) (by simp) (by have := HL1.out; omega) HE8.out).mono ?_
  rintro e wV ⟨rfl,hF,-⟩
  have HFW := hide hF
  clear hF HFV HL1
  go_wp2_with fail
  refine (HFW.out.clean HX1.out HQ.out.m8 HQ.out.d5 HQ.out.b5).mono ?_
  rintro e wW ⟨rfl,hF⟩
  have HFX := hide hF
  clear hF HFW
  have cX := bools_at HFX.out.bbk hk
  have lX := lt_of_some HFX.out.bbk
  have hnl : (nameF k).length = 2 := by rw [nameF4 hk]; rfl
  have HNm := hide (fun w => name_fany k w (by omega))
  have HVu := hide (show ∀ i,i < 4 → updN vt k 1000 i ≤ 1000 from fun i hi => by have := HVx.out i hi; unfold updN; split <;> omega)
  rcases hbk : bs k with _ | _
  · rw [hbk] at cX HE9
    go_wp2_with fail
    refine (HNm.out _).mono ?_
    rintro e wY ⟨rfl,hb⟩
    have HFY := hide (HFX.out.below hb)
    clear hb HFX cX lX HNm
    have eT : ((((({ data := #[112,117,98,32,102,110,32,111,116,104,101,114,40,41,58,32,105,110,116,32,61,32,49,59,32,112,117,98,32,102,110,32] } : ByteArray) ++ { data := (nameF k).toArray }) ++ { data := #[40,121,58,32] }) ++ { data := #[105,110,116] }) ++ { data := #[41,58,32,105,110,116,32,61,32,49,48,48,48,59] }) = ⟨(nonT (some (k,false))).toArray⟩ := cat5 [112,117,98,32,102,110,32,111,116,104,101,114,40,41,58,32,105,110,116,32,61,32,49,59,32,112,117,98,32,102,110,32] (nameF k) [40,121,58,32] [105,110,116] [41,58,32,105,110,116,32,61,32,49,48,48,48,59]
    go_wp2_with fail
    refine (HFY.out.set HX1.out (n := Ns) (t := nonT (some (k,false))) (by simp) (by have := non_len (nz := some (k,false)) (fun k' t h => by cases h; exact hk); omega) HE9.out).mono ?_
    rintro e wZ ⟨rfl,hF,-⟩
    have HFa := hide hF
    clear hF HFY eT
    go_wp2_with fail
    refine (HFa.out.clean HX1.out HQ.out.m9 HQ.out.d6 HQ.out.b6).mono ?_
    rintro e wz ⟨rfl,hF⟩
    have HFZ := hide hF
    clear hF HFa
    go_wp2
    go_loopw [23,29] (fun wv iv wr => ∃ j : Nat,j ≤ 3 ∧ iv = .int .i64 j ∧ Hid (Below wz.heap.size wz wr) ∧ Hid (wr.ownsRow wz.heap.size 9 1 wv (wantN u k Ns j).length (strCs (wantN u k Ns j)))) (fun _ iv _ => 3 - (intOf iv).toNat)
    case atStart => exact ⟨0,by omega,rfl,hide (Below.refl _ _),hide (World.ownsRow_nil _ _ _ _)⟩
    case round =>
      obtain ⟨j,hj,rfl,HBr,HRow⟩ := hrel
      by_cases hj3 : j < 3
      · have hji : (j : Int) < 3 := by omega
        have hj0 : (0 : Int) ≤ (j : Int) := by omega
        have HFr := hide (HFZ.out.below HBr.out)
        obtain ⟨g0,g1,g2,g3⟩ := HFr.out.client hj3
        obtain ⟨so2,sc2,hsv⟩ := owns_shape' HRow.out
        subst hsv
        have hwl := wantN_le u k Ns j
        have hsr := HBr.out.size
        generalize hwj : wantN u k Ns j = lj at *
        have HWj := hide hwj
        clear hwj
        by_cases h2 : j = 2
        · have h2i : ((j : Int) == 2) = true := by rw [h2]; rfl
          have HH2 := hide h2
          clear h2
          go_wp2_with (at_builtin; refine app_where _ rfl _ _ 58 rfl wz.heap.size 9 i0 (.string ⟨#[]⟩) 1 16 Tryz.underlying58 hi hz0 hz1 hz2 rfl (by decide) _ _ _ rfl (HRow.out.alloc _) ⟨wr.heap.size,0,none⟩ 1 1 [.string ⟨(Ns).toArray⟩] rfl rfl (fun j u hj => newp_cells wr _ _ j u hj) (by intro u hu; simp at hu; subst hu; rfl) (by omega) (by unfold maxLen; omega) (by omega) (by simp; omega) ?_)
          intro g7 cap7 w3' hown hgrow hwhere
          have HB3 := hide (want_grow HBr.out HRow.out hgrow)
          have HRow3 := hide (want_row (l' := lj ++ [Ns]) hown rfl rfl rfl)
          have hsr3 := HB3.out.size
          obtain ⟨l3,h3⟩ : ∃ l3,l3 = lj ++ [Ns] := ⟨_,rfl⟩
          rw [← h3] at HRow3
          have hl3 : l3.length = lj.length + 1 := by rw [h3]; simp
          rw [hl3] at HRow3
          have HL3 := hide hl3
          have H3 := hide h3
          clear hl3 h3
          have HF3 := hide (HFZ.out.below HB3.out)
          obtain ⟨n0,n1,n2,n3⟩ := HF3.out.client hj3
          clear hown hgrow hwhere
          by_cases hb : (u j / 2 ^ k) % 2 = 1
          · obtain ⟨hbt,hbb⟩ := bit_true (j := j) hb (HU.out j) hk
            have HWn := hide (show wantN u k Ns (j + 1) = l3 ++ [nmC j] by have h2 := HH2.out; have hbb2 := hbb; rw [h2] at hbb2; rw [show j + 1 = 3 by omega,wantN_2,H3.out,← HWj.out,h2]; simp [hbb,hbb2,isC])
            clear hb hbb
            go_wp2_with (at_builtin; refine app_where _ rfl _ _ 58 rfl wz.heap.size 9 i0 (.string ⟨#[]⟩) 1 16 Tryz.underlying58 hi hz0 hz1 hz2 rfl (by decide) _ _ _ rfl (HRow3.out.alloc _) ⟨w3'.heap.size,0,none⟩ 1 1 [.string ⟨(nmC j).toArray⟩] rfl rfl (fun j u hj => newp_cells w3' _ _ j u hj) (by intro u hu; simp at hu; subst hu; rfl) (by omega) (by unfold maxLen; omega) (by omega) (by simp; omega) ?_)
            intro g8 cap8 w8' hown hgrow hwhere
            have HBn := hide (want_grow HB3.out HRow3.out hgrow)
            have HRn := hide (want_row hown HWn.out HL3.out rfl)
            clear hown hgrow hwhere
            go_wp2
            go_roundw
            case rel => exact ⟨j + 1,by omega,by go_num,HBn,HRn⟩
            case measure => simp [intOf]; omega
          · obtain ⟨hbt,hbb⟩ := bit_false (j := j) hb (HU.out j) hk
            have HWn := hide (show wantN u k Ns (j + 1) = l3 by have h2 := HH2.out; have hbb2 := hbb; rw [h2] at hbb2; rw [show j + 1 = 3 by omega,wantN_2,H3.out,← HWj.out,h2]; simp [hbb,hbb2,isC])
            have HRn := hide (show w3'.ownsRow wz.heap.size 9 1 _ (wantN u k Ns (j + 1)).length (strCs (wantN u k Ns (j + 1))) by rw [HWn.out,HL3.out]; exact HRow3.out)
            clear hb hbb
            go_wp2
            go_roundw
            case rel => exact ⟨j + 1,by omega,by go_num,HB3,HRn⟩
            case measure => simp [intOf]; omega
        · have h2i : ((j : Int) == 2) = false := by simpa using (show ¬ (j : Int) = 2 by omega)
          have HH2 := hide (show j < 2 by omega)
          clear h2
          by_cases hb : (u j / 2 ^ k) % 2 = 1
          · obtain ⟨hbt,hbb⟩ := bit_true (j := j) hb (HU.out j) hk
            have HWn := hide (show wantN u k Ns (j + 1) = lj ++ [nmC j] by rw [wantN_lt u k Ns HH2.out,HWj.out]; simp [hbb,isC])
            clear hb hbb
            go_wp2_with (at_builtin; refine app_where _ rfl _ _ 58 rfl wz.heap.size 9 i0 (.string ⟨#[]⟩) 1 16 Tryz.underlying58 hi hz0 hz1 hz2 rfl (by decide) _ _ _ rfl (HRow.out.alloc _) ⟨wr.heap.size,0,none⟩ 1 1 [.string ⟨(nmC j).toArray⟩] rfl rfl (fun j u hj => newp_cells wr _ _ j u hj) (by intro u hu; simp at hu; subst hu; rfl) (by omega) (by unfold maxLen; omega) (by omega) (by simp; omega) ?_)
            intro g8 cap8 w8' hown hgrow hwhere
            have HBn := hide (want_grow HBr.out HRow.out hgrow)
            have HRn := hide (want_row hown HWn.out rfl rfl)
            clear hown hgrow hwhere
            go_wp2
            go_roundw
            case rel => exact ⟨j + 1,by omega,by go_num,HBn,HRn⟩
            case measure => simp [intOf]; omega
          · obtain ⟨hbt,hbb⟩ := bit_false (j := j) hb (HU.out j) hk
            have HWn := hide (show wantN u k Ns (j + 1) = lj by rw [wantN_lt u k Ns HH2.out,HWj.out]; simp [hbb,isC])
            have HRn := hide (show wr.ownsRow wz.heap.size 9 1 _ (wantN u k Ns (j + 1)).length (strCs (wantN u k Ns (j + 1))) by rw [HWn.out]; exact HRow.out)
            clear hb hbb
            go_wp2
            go_roundw
            case rel => exact ⟨j + 1,by omega,by go_num,HBr,HRn⟩
            case measure => simp [intOf]; omega
      · have hje : j = 3 := by omega
        subst hje
        obtain ⟨so2,sc2,hsv⟩ := owns_shape' HRow.out
        subst hsv
        have HFb := hide (HFZ.out.below HBr.out)
        have HTx := hide (txs_own HRow.out)
        clear HBr HRow HFZ
        go_wp2_with fail
        refine (HFb.out.compiled HQ.out.l6 HTx.out).mono ?_
        rintro e wa ⟨rfl,hF,-⟩
        have HFc := hide hF
        clear hF HTx HFb
        have cC := vals_at HFc.out.vbk hk
        have lC := lt_of_some HFc.out.vbk
        have fC := free_block HFc.out.vbk
        have HFd := hide (HFc.out.setV HX1.out hk 1000)
        generalize updN vt k 1000 = vu at *
        go_upto_region 77 with fail
        go_cut [] from 301 to 302 (fun wx => Hid (Sq w D p vb bb [(ub,usO u),(nb,nmO3)] vu bs c6 wx))
        case first =>
          go_wp2
          go_meet
          case rel => exact HFd
        case rest =>
          have HFe := hide hcut.out
          clear hcut HFd HFc cC lC fC
          have HO6 := hide HQ.out.r6
          go_wp2
          go_loopw [10,30] (fun okv i wr => ∃ j : Nat,j ≤ 3 ∧ okv = .bool true ∧ i = .int .i64 j ∧ Hid (Sq w D p vb bb [(ub,usO u),(nb,nmO3)] vu bs c6 wr)) (fun _ i _ => 3 - (intOf i).toNat)
          case atStart => exact ⟨0,by omega,rfl,rfl,HFe⟩
          case round =>
            obtain ⟨j,hj,rfl,rfl,HFj⟩ := hrel
            by_cases hj3 : j < 3
            · have hji : (j : Int) < 3 := by omega
              have hj0 : (0 : Int) ≤ (j : Int) := by omega
              obtain ⟨g0,g1,g2,g3⟩ := HFj.out.client hj3
              go_wp2_with fail
              refine (HFj.out.run HO6.out (HR6.out j hj3)).mono ?_
              rintro e wR ⟨rfl,hFR⟩
              have HFR := hide hFR
              obtain ⟨⟨x0,x1,x2,x3,lx⟩,-⟩ := hFR.cells
              obtain ⟨h0,h1,h2,h3⟩ := hFR.client hj3
              have HTt := hide (fun w => total_tot (u j) (HU.out j) bs vu HVu.out w)
              clear hFR g0 g1 g2 g3
              go_wp2
              go_region_held3 (fun w' => w'.cell? ⟨ub,j,none⟩ = some (.int .i64 (u j)) ∧ w'.cell? ⟨vb,0,none⟩ = some (.int .i64 (vu 0)) ∧ w'.cell? ⟨vb,1,none⟩ = some (.int .i64 (vu 1)) ∧ w'.cell? ⟨vb,2,none⟩ = some (.int .i64 (vu 2)) ∧ w'.cell? ⟨vb,3,none⟩ = some (.int .i64 (vu 3))) (go_keep)
                (first
                  | (go_at_call 26; refine (HTt.out _).mono ?_; rintro e wS ⟨rfl,hbS⟩; have HFS := hide (HFR.out.below (undrewB hbS)); obtain ⟨⟨k0,k1,k2,k3,kl⟩,-⟩ := HFS.out.cells; obtain ⟨m0,m1,m2,m3⟩ := HFS.out.client hj3; clear hbS))
              all_goals
                go_wp2
                go_roundw
                case rel => exact ⟨j + 1,by omega,rfl,by go_num,HFS⟩
                case measure => simp [intOf]; omega
            · have hje : j = 3 := by omega
              subst hje
              go_wp2
              go_ret
              exact ⟨rfl,HFj.out.bel⟩
  rw [hbk] at cX HE9
  go_wp2_with fail
  refine (HNm.out _).mono ?_
  rintro e wY ⟨rfl,hb⟩
  have HFY := hide (HFX.out.below hb)
  clear hb HFX cX lX HNm
  have eT : ((((({ data := #[112,117,98,32,102,110,32,111,116,104,101,114,40,41,58,32,105,110,116,32,61,32,49,59,32,112,117,98,32,102,110,32] } : ByteArray) ++ { data := (nameF k).toArray }) ++ { data := #[40,121,58,32] }) ++ { data := #[98,111,111,108] }) ++ { data := #[41,58,32,105,110,116,32,61,32,49,48,48,48,59] }) = ⟨(nonT (some (k,true))).toArray⟩ := cat5 [112,117,98,32,102,110,32,111,116,104,101,114,40,41,58,32,105,110,116,32,61,32,49,59,32,112,117,98,32,102,110,32] (nameF k) [40,121,58,32] [98,111,111,108] [41,58,32,105,110,116,32,61,32,49,48,48,48,59]
  go_wp2_with fail
  refine (HFY.out.set HX1.out (n := Ns) (t := nonT (some (k,true))) (by simp) (by have := non_len (nz := some (k,true)) (fun k' t h => by cases h; exact hk); omega) HE9.out).mono ?_
  rintro e wZ ⟨rfl,hF,-⟩
  have HFa := hide hF
  clear hF HFY eT
  go_wp2_with fail
  refine (HFa.out.clean HX1.out HQ.out.m9 HQ.out.d6 HQ.out.b6).mono ?_
  rintro e wz ⟨rfl,hF⟩
  have HFZ := hide hF
  clear hF HFa
  go_wp2
  go_loopw [23,29] (fun wv iv wr => ∃ j : Nat,j ≤ 3 ∧ iv = .int .i64 j ∧ Hid (Below wz.heap.size wz wr) ∧ Hid (wr.ownsRow wz.heap.size 9 1 wv (wantN u k Ns j).length (strCs (wantN u k Ns j)))) (fun _ iv _ => 3 - (intOf iv).toNat)
  case atStart => exact ⟨0,by omega,rfl,hide (Below.refl _ _),hide (World.ownsRow_nil _ _ _ _)⟩
  obtain ⟨j,hj,rfl,HBr,HRow⟩ := hrel
  by_cases hj3 : j < 3
  · have hji : (j : Int) < 3 := by omega
    have hj0 : (0 : Int) ≤ (j : Int) := by omega
    have HFr := hide (HFZ.out.below HBr.out)
    obtain ⟨g0,g1,g2,g3⟩ := HFr.out.client hj3
    obtain ⟨so2,sc2,hsv⟩ := owns_shape' HRow.out
    subst hsv
    have hwl := wantN_le u k Ns j
    have hsr := HBr.out.size
    generalize hwj : wantN u k Ns j = lj at *
    have HWj := hide hwj
    clear hwj
    by_cases h2 : j = 2
    · have h2i : ((j : Int) == 2) = true := by rw [h2]; rfl
      have HH2 := hide h2
      clear h2
      go_wp2_with (at_builtin; refine app_where _ rfl _ _ 58 rfl wz.heap.size 9 i0 (.string ⟨#[]⟩) 1 16 Tryz.underlying58 hi hz0 hz1 hz2 rfl (by decide) _ _ _ rfl (HRow.out.alloc _) ⟨wr.heap.size,0,none⟩ 1 1 [.string ⟨(Ns).toArray⟩] rfl rfl (fun j u hj => newp_cells wr _ _ j u hj) (by intro u hu; simp at hu; subst hu; rfl) (by omega) (by unfold maxLen; omega) (by omega) (by simp; omega) ?_)
      intro g7 cap7 w3' hown hgrow hwhere
      have HB3 := hide (want_grow HBr.out HRow.out hgrow)
      have HRow3 := hide (want_row (l' := lj ++ [Ns]) hown rfl rfl rfl)
      have hsr3 := HB3.out.size
      obtain ⟨l3,h3⟩ : ∃ l3,l3 = lj ++ [Ns] := ⟨_,rfl⟩
      rw [← h3] at HRow3
      have hl3 : l3.length = lj.length + 1 := by rw [h3]; simp
      rw [hl3] at HRow3
      have HL3 := hide hl3
      have H3 := hide h3
      clear hl3 h3
      have HF3 := hide (HFZ.out.below HB3.out)
      obtain ⟨n0,n1,n2,n3⟩ := HF3.out.client hj3
      clear hown hgrow hwhere
      by_cases hb : (u j / 2 ^ k) % 2 = 1
      · obtain ⟨hbt,hbb⟩ := bit_true (j := j) hb (HU.out j) hk
        have HWn := hide (show wantN u k Ns (j + 1) = l3 ++ [nmC j] by have h2 := HH2.out; have hbb2 := hbb; rw [h2] at hbb2; rw [show j + 1 = 3 by omega,wantN_2,H3.out,← HWj.out,h2]; simp [hbb,hbb2,isC])
        clear hb hbb
        go_wp2_with (at_builtin; refine app_where _ rfl _ _ 58 rfl wz.heap.size 9 i0 (.string ⟨#[]⟩) 1 16 Tryz.underlying58 hi hz0 hz1 hz2 rfl (by decide) _ _ _ rfl (HRow3.out.alloc _) ⟨w3'.heap.size,0,none⟩ 1 1 [.string ⟨(nmC j).toArray⟩] rfl rfl (fun j u hj => newp_cells w3' _ _ j u hj) (by intro u hu; simp at hu; subst hu; rfl) (by omega) (by unfold maxLen; omega) (by omega) (by simp; omega) ?_)
        intro g8 cap8 w8' hown hgrow hwhere
        have HBn := hide (want_grow HB3.out HRow3.out hgrow)
        have HRn := hide (want_row hown HWn.out HL3.out rfl)
        clear hown hgrow hwhere
        go_wp2
        go_roundw
        case rel => exact ⟨j + 1,by omega,by go_num,HBn,HRn⟩
        case measure => simp [intOf]; omega
      · obtain ⟨hbt,hbb⟩ := bit_false (j := j) hb (HU.out j) hk
        have HWn := hide (show wantN u k Ns (j + 1) = l3 by have h2 := HH2.out; have hbb2 := hbb; rw [h2] at hbb2; rw [show j + 1 = 3 by omega,wantN_2,H3.out,← HWj.out,h2]; simp [hbb,hbb2,isC])
        have HRn := hide (show w3'.ownsRow wz.heap.size 9 1 _ (wantN u k Ns (j + 1)).length (strCs (wantN u k Ns (j + 1))) by rw [HWn.out,HL3.out]; exact HRow3.out)
        clear hb hbb
        go_wp2
        go_roundw
        case rel => exact ⟨j + 1,by omega,by go_num,HB3,HRn⟩
        case measure => simp [intOf]; omega
    · have h2i : ((j : Int) == 2) = false := by simpa using (show ¬ (j : Int) = 2 by omega)
      have HH2 := hide (show j < 2 by omega)
      clear h2
      by_cases hb : (u j / 2 ^ k) % 2 = 1
      · obtain ⟨hbt,hbb⟩ := bit_true (j := j) hb (HU.out j) hk
        have HWn := hide (show wantN u k Ns (j + 1) = lj ++ [nmC j] by rw [wantN_lt u k Ns HH2.out,HWj.out]; simp [hbb,isC])
        clear hb hbb
        go_wp2_with (at_builtin; refine app_where _ rfl _ _ 58 rfl wz.heap.size 9 i0 (.string ⟨#[]⟩) 1 16 Tryz.underlying58 hi hz0 hz1 hz2 rfl (by decide) _ _ _ rfl (HRow.out.alloc _) ⟨wr.heap.size,0,none⟩ 1 1 [.string ⟨(nmC j).toArray⟩] rfl rfl (fun j u hj => newp_cells wr _ _ j u hj) (by intro u hu; simp at hu; subst hu; rfl) (by omega) (by unfold maxLen; omega) (by omega) (by simp; omega) ?_)
        intro g8 cap8 w8' hown hgrow hwhere
        have HBn := hide (want_grow HBr.out HRow.out hgrow)
        have HRn := hide (want_row hown HWn.out rfl rfl)
        clear hown hgrow hwhere
        go_wp2
        go_roundw
        case rel => exact ⟨j + 1,by omega,by go_num,HBn,HRn⟩
        case measure => simp [intOf]; omega
      · obtain ⟨hbt,hbb⟩ := bit_false (j := j) hb (HU.out j) hk
        have HWn := hide (show wantN u k Ns (j + 1) = lj by rw [wantN_lt u k Ns HH2.out,HWj.out]; simp [hbb,isC])
        have HRn := hide (show wr.ownsRow wz.heap.size 9 1 _ (wantN u k Ns (j + 1)).length (strCs (wantN u k Ns (j + 1))) by rw [HWn.out]; exact HRow.out)
        clear hb hbb
        go_wp2
        go_roundw
        case rel => exact ⟨j + 1,by omega,by go_num,HBr,HRn⟩
        case measure => simp [intOf]; omega
  have hje : j = 3 := by omega
  subst hje
  obtain ⟨so2,sc2,hsv⟩ := owns_shape' HRow.out
  subst hsv
  have HFb := hide (HFZ.out.below HBr.out)
  have HTx := hide (txs_own HRow.out)
  clear HBr HRow HFZ
  go_wp2_with fail
  refine (HFb.out.compiled HQ.out.l6 HTx.out).mono ?_
  rintro e wa ⟨rfl,hF,-⟩
  have HFc := hide hF
  clear hF HTx HFb
  have cC := vals_at HFc.out.vbk hk
  have lC := lt_of_some HFc.out.vbk
  have fC := free_block HFc.out.vbk
  have HFd := hide (HFc.out.setV HX1.out hk 1000)
  generalize updN vt k 1000 = vu at *
  go_upto_region 77 with fail
  go_cut [] from 301 to 302 (fun wx => Hid (Sq w D p vb bb [(ub,usO u),(nb,nmO3)] vu bs c6 wx))
  case first =>
    go_wp2
    go_meet
    case rel => exact HFd
  have HFe := hide hcut.out
  clear hcut HFd HFc cC lC fC
  have HO6 := hide HQ.out.r6
  go_wp2
  go_loopw [10,30] (fun okv i wr => ∃ j : Nat,j ≤ 3 ∧ okv = .bool true ∧ i = .int .i64 j ∧ Hid (Sq w D p vb bb [(ub,usO u),(nb,nmO3)] vu bs c6 wr)) (fun _ i _ => 3 - (intOf i).toNat)
  case atStart => exact ⟨0,by omega,rfl,rfl,HFe⟩
  obtain ⟨j,hj,rfl,rfl,HFj⟩ := hrel
  by_cases hj3 : j < 3
  · have hji : (j : Int) < 3 := by omega
    have hj0 : (0 : Int) ≤ (j : Int) := by omega
    obtain ⟨g0,g1,g2,g3⟩ := HFj.out.client hj3
    go_wp2_with fail
    refine (HFj.out.run HO6.out (HR6.out j hj3)).mono ?_
    rintro e wR ⟨rfl,hFR⟩
    have HFR := hide hFR
    obtain ⟨⟨x0,x1,x2,x3,lx⟩,-⟩ := hFR.cells
    obtain ⟨h0,h1,h2,h3⟩ := hFR.client hj3
    have HTt := hide (fun w => total_tot (u j) (HU.out j) bs vu HVu.out w)
    clear hFR g0 g1 g2 g3
    go_wp2
    go_region_held3 (fun w' => w'.cell? ⟨ub,j,none⟩ = some (.int .i64 (u j)) ∧ w'.cell? ⟨vb,0,none⟩ = some (.int .i64 (vu 0)) ∧ w'.cell? ⟨vb,1,none⟩ = some (.int .i64 (vu 1)) ∧ w'.cell? ⟨vb,2,none⟩ = some (.int .i64 (vu 2)) ∧ w'.cell? ⟨vb,3,none⟩ = some (.int .i64 (vu 3))) (go_keep)
      (first
        | (go_at_call 26; refine (HTt.out _).mono ?_; rintro e wS ⟨rfl,hbS⟩; have HFS := hide (HFR.out.below (undrewB hbS)); obtain ⟨⟨k0,k1,k2,k3,kl⟩,-⟩ := HFS.out.cells; obtain ⟨m0,m1,m2,m3⟩ := HFS.out.client hj3; clear hbS))
    all_goals
      go_wp2
      go_roundw
      case rel => exact ⟨j + 1,by omega,rfl,by go_num,HFS⟩
      case measure => simp [intOf]; omega
  have hje : j = 3 := by omega
  subst hje
  go_wp2
  go_ret
  exact ⟨rfl,HFj.out.bel⟩
end Go.Proofs.YtpmmjkiclngpmaaGreatDoor
