/- YtpmmjkiclngpmaaGreatDoorB41 -/
import Derived.Test.YtpmmjkiclngpmaaGreatDoorB40
import Derived.Test.YtpmmjkiclngpmaaGreatDoorB32
import Derived.Shelf.SlIter.Nil
import Derived.Shelf.SortM.Plain
import Derived.Shelf.SortM.SortNone
import Derived.Test.YtpmmjkiclngpmaaGreatDoorProg
import Derived.Test.YtpmmjkiclngpmaaGreatDoorB17
set_option maxRecDepth 100000
set_option linter.unusedSimpArgs false
set_option linter.unusedVariables false
set_option maxHeartbeats 12800000
namespace Go.Proofs.YtpmmjkiclngpmaaGreatDoor
open Go.RowKit Go.Maps
theorem make_places (w : World) : (Instr.makeMap 240 none).run Tryz.prog w = .ok (.map (some w.heap.size)) (w.alloc (.map #[] 0)) := by
  simp [Instr.makeMap,go_sem]
theorem take_flat (os : List (List CF)) (j : Nat) (hj : j < os.length) : (os.take (j + 1)).flatten = (os.take j).flatten ++ os[j] := by
  rw [List.take_succ_eq_append_getElem hj]
  simp only [List.flatten_append,List.flatten_cons,List.flatten_nil,List.append_nil]
theorem flat_len (os : List (List CF)) (j : Nat) (hj : j < os.length) : (os.take j).flatten.length + os[j].length ≤ os.flatten.length := by
  have h : os.flatten = (os.take j).flatten ++ (os[j] ++ (os.drop (j + 1)).flatten) := by
    conv => lhs; rw [← List.take_append_drop j os,List.drop_eq_getElem_cons hj]
    simp only [List.flatten_append,List.flatten_cons]
  rw [h,List.length_append,List.length_append]; omega
theorem link_any (w : World) (S : Nat → Prop) (ov : Value) (fvs : List Value) (os : List (List CF)) (base : Nat) (ho : w.ownsRow base 151 1 ov os.length fvs) (hf : ∀ j (h : j < os.length) (h2 : j < fvs.length),FnRow S w fvs[j] os[j])
    (hlen : os.flatten.length ≤ 100000) (hos : os.length ≤ 1000) (hok : ∀ f ∈ os.flatten,CFok f) :
    Calls Tryz.prog 79 #[ov] w fun e w' => ∃ ib fv,e = .returned (.pointer (some ⟨ib,0,none⟩)) ∧ Below w.heap.size w w' ∧ w.heap.size ≤ ib ∧ w'.heap[ib]? = some (.cells #[fv] 95 (0,0)) ∧
      FnRow (fun k => (S k ∧ k < w.heap.size) ∨ (w.heap.size ≤ k ∧ k ≠ ib)) w' fv (linkP os) := by
  have hfl : fvs.length = os.length := by have := ho.1; simpa using this
  obtain ⟨oo,oc,hov⟩ := owns_shape' ho
  subst hov
  have hmk := make_places
  have HO := hide ho
  have HF := hide hf
  have HOk := hide hok
  obtain ⟨i0,hi,hz0,hz1,hz2⟩ := info_parts info_cfun
  have HL := hide (show Lnk w.heap.size w.heap.size (w.heap.size + 1) S (.slice none 0 0) ((os.take 0).flatten) w ((w.alloc (.cells #[.slice none 0 0] 95)).alloc (.map #[] 0)) from by
    have e1 : (w.alloc (.cells #[.slice none 0 0] 95)).heap.size = w.heap.size + 1 := by simp
    refine ⟨((Below.refl _ _).alloc (Nat.le_refl _) _).alloc (by rw [e1]; omega) _,⟨Nat.le_refl _,by omega⟩,block_alloc (block_new w _) _,⟨[],World.ownsRow_nil _ _ _ _,⟨rfl,fun j hj => absurd hj (by simp)⟩⟩,?_,by simp [Value.ownBlock]⟩
    have := PlAt.new (w.alloc (.cells #[.slice none 0 0] 95))
    rw [e1] at this
    exact this)
  clear ho hf hok
  go_enter Tryz.func79,Tryz.ntmps79
  go_wp2
  go_loopg [15] os.length (fun gk i wr => ∃ (j : Nat) (fv : Value),gk + j = os.length ∧ i = .int .i64 j ∧ Hid (Lnk w.heap.size w.heap.size (w.heap.size + 1) S fv ((os.take j).flatten) w wr))
  case atStart => exact ⟨0,.slice none 0 0,by omega,rfl,HL.out⟩
  obtain ⟨j,fv,hj,rfl,HLr⟩ := hrel
  obtain ⟨gk1,hgk1⟩ : ∃ x,x = gk := ⟨gk,rfl⟩
  subst hgk1
  have hszr := HLr.out.bel.size
  by_cases hlt : j < os.length
  · obtain ⟨ob,cap,cur,hov2,hob0,hob,hcc,_⟩ := owr_shape HO.out (by omega)
    simp only [Value.slice.injEq,true_and] at hov2
    obtain ⟨rfl,rfl⟩ := hov2
    have hobl := lt_of_some hob
    obtain ⟨xs,hxs,hfs⟩ := HF.out j hlt (by omega)
    obtain ⟨fo,fc,hfv⟩ := owns_shape' hxs.1
    have q0 := (below_cell HLr.out.bel hobl j).trans (by
      have := owns_cell HO.out j (by omega)
      rw [this,List.getElem?_eq_getElem (by omega),hfv])
    have hobr : ob < wr.heap.size := by omega
    have HXs := hide hxs.1
    rw [hfv] at HXs
    have HFs := hide hfs
    have HTk := hide (take_flat os j hlt)
    have hfle := flat_len os j hlt
    have HLX := hide (HLr.out.below (w' := wr.alloc (.cells #[.slice fo os[j].length fc] 151)) ((Below.refl _ _).alloc (Nat.le_refl _) _))
    have HMem := hide (show ∀ f ∈ os[j],f ∈ os.flatten from fun f hf => List.mem_flatten.2 ⟨_,List.getElem_mem hlt,hf⟩)
    clear hxs hfs hob
    generalize hgo : os[j] = fs at *
    generalize hgd : (os.take j).flatten = dn at *
    have hcl : j < oc := by omega
    go_wp2
    go_loopg [22] fs.length (fun gq i wq => ∃ (q : Nat) (fv2 : Value),gq + q = fs.length ∧ i = .int .i64 q ∧ Hid (Lnk w.heap.size w.heap.size (w.heap.size + 1) S fv2 (dn ++ fs.take q) w wq))
    case atStart => exact ⟨0,fv,by omega,rfl,by show Lnk _ _ _ _ _ _ _ _; simpa using HLX.out⟩
    case round =>
      obtain ⟨q,fv2,hq,rfl,HLq⟩ := hrel
      by_cases hqlt : q < fs.length
      · obtain ⟨fb,fcap,fcur,hfo,_,hfbk,hfcc,_⟩ := owr_shape HXs.out (by omega)
        simp only [Value.slice.injEq,true_and] at hfo
        obtain ⟨rfl,rfl⟩ := hfo
        have hfbl := lt_of_some hfbk
        have hbq := HLq.out.bel
        have hszq := hbq.size
        have hfbq : fb < wr.heap.size := by omega
        obtain ⟨pv,kv,lv,hrows,hcell⟩ := HFs.out.at q hqlt
        have hce : ∀ c,c < 8 → wr.cell? ⟨fb,q * 8 + c,none⟩ = (fnCells fs[q] pv kv lv)[c]? := fun c hc => (below_cell hbq hfbl _).trans ((owns_cell HXs.out (q * 8 + c) (by omega)).trans (hcell c hc))
        obtain ⟨po,pc,rfl⟩ := owns_shape' hrows.pr.1
        obtain ⟨ko,kc,rfl⟩ := owns_shape' hrows.co.1
        obtain ⟨zo,zc,rfl⟩ := owns_shape' hrows.ca.1
        have t0 := hce 0 (by omega)
        have t1 := hce 1 (by omega)
        have t2 := hce 2 (by omega)
        have t3 := hce 3 (by omega)
        have t4 := hce 4 (by omega)
        have t5 := hce 5 (by omega)
        have t6 := hce 6 (by omega)
        have t7 := hce 7 (by omega)
        simp only [fnCells,Nat.add_zero,List.getElem?_cons_zero,List.getElem?_cons_succ] at t0 t1 t2 t3 t4 t5 t6 t7
        have hfok := HOk.out fs[q] (HMem.out _ (List.getElem_mem hqlt))
        have HTq := hide (show fs.take (q + 1) = fs.take q ++ [fs[q]] from List.take_succ_eq_append_getElem hqlt)
        have hNl : (dn ++ fs.take q).length ≤ 100000 := by rw [List.length_append,List.length_take]; omega
        have HApp := hide (show dn ++ fs.take (q + 1) = (dn ++ fs.take q) ++ [fs[q]] by rw [HTq.out,List.append_assoc])
        generalize dn ++ fs.take q = dq at *
        obtain ⟨fo2,fc2,hfv2⟩ : ∃ o c,fv2 = .slice o dq.length c := by obtain ⟨ys,h1,_⟩ := HLq.out.row; exact owns_shape' h1
        subst hfv2
        have HRw := hide (hrows.keep (S' := fun k => S k ∧ k < w.heap.size) (w' := w) fun k h1 h2 => ⟨⟨h1,h2⟩,rfl⟩)
        obtain ⟨X,hX⟩ : ∃ X,wr.alloc (.cells #[.string ⟨fs[q].mod.toArray⟩,.string ⟨fs[q].name.toArray⟩,.bool fs[q].pub,.slice po fs[q].params.length pc,.string ⟨fs[q].sig.toArray⟩,.int .i64 fs[q].slots,.slice ko fs[q].code.length kc,.slice zo fs[q].calls.length zc] 92) = X := ⟨_,rfl⟩
        have hbX : Below wr.heap.size wr X := by rw [← hX]; exact (Below.refl _ _).alloc (Nat.le_refl _) _
        have HLX2 := hide (HLq.out.below hbX.drew)
        have hXs : X.heap.size = wr.heap.size + 1 := by rw [← hX]; simp
        have hXb : X.heap[wr.heap.size]? = some (.cells #[.string ⟨fs[q].mod.toArray⟩,.string ⟨fs[q].name.toArray⟩,.bool fs[q].pub,.slice po fs[q].params.length pc,.string ⟨fs[q].sig.toArray⟩,.int .i64 fs[q].slots,.slice ko fs[q].code.length kc,.slice zo fs[q].calls.length zc] 92 (0,0)) := by rw [← hX]; exact block_new _ _
        obtain ⟨W,hrun,hpl,hgW⟩ := HLX2.out.pla.put (by unfold maxLen; omega) (x := symF fs[q]) (by show fs[q].mod.length ≤ _; have := hfok.own; unfold maxLen; omega) (by show fs[q].name.length ≤ _; have := hfok.own; unfold maxLen; omega) dq.length
        have HLM := hide (HLX2.out.note hgW hpl)
        have hmbl := HLq.out.pla.lt
        have hWb : W.heap[wr.heap.size]? = _ := (hgW.block wr.heap.size (by show wr.heap.size < X.heap.size; omega) (fun e => by simp at e; omega)).trans hXb
        have u0 := cell_block hXb 0
        have u1 := cell_block hXb 1
        have ul := lt_of_some hXb
        have v0 := cell_block hWb 0
        have v1 := cell_block hWb 1
        have v2 := cell_block hWb 2
        have v3 := cell_block hWb 3
        have v4 := cell_block hWb 4
        have v5 := cell_block hWb 5
        have v6 := cell_block hWb 6
        have v7 := cell_block hWb 7
        have vl := lt_of_some hWb
        simp at u0 u1 v0 v1 v2 v3 v4 v5 v6 v7
        have x0 := (cell_block HLX2.out.blk 0)
        have xl := lt_of_some HLX2.out.blk
        have y0 := (cell_block HLM.out.blk 0)
        have yl := lt_of_some HLM.out.blk
        have yf := free_block HLM.out.blk
        simp at x0 y0 xl
        obtain ⟨ys,hys,hyf⟩ := HLM.out.row
        have HYs := hide hys
        have HYf := hide hyf
        have HX := hide hX
        have HRW := hide (HRw.out.keep (S' := fun k => S k ∧ k < w.heap.size) (w' := W) fun k h1 h2 => ⟨h1,HLM.out.bel.block k h1.2⟩)
        have hlow := HLM.out.low
        have hbW := HLM.out.bel.size
        have b1 : dq.length + 1 ≤ maxLen := by unfold maxLen; omega
        have b2 : (dq.length + 1) * 136 ≤ 140737488355328 := by omega
        have hrunH := hrun
        simp only [symF] at hrun
        clear hX hXb hWb hbX hys hyf hpl hgW hce hcell hrows hfbk hbq hrunH
        generalize fs[q] = f at *
        go_wp2_with fail
        rw [HX.out]
        go_wp2_with fail
        go_region
        all_goals
          (try go_wp2_with fail)
          go_region_law (refine step_app_where rfl (.tmp 38) (.tmp 40) 93 rfl w.heap.size 92 i0 (.agg #[.string ⟨#[]⟩,.string ⟨#[]⟩,.bool false,.slice none 0 0,.string ⟨#[]⟩,.int .i64 0,.slice none 0 0,.slice none 0 0]) 8 136 Tryz.underlying93 hi hz0 hz1 hz2 rfl (by decide) (.slice fo2 dq.length fc2) dq.length ys ?_ ?_ ⟨W.heap.size,0,none⟩ 1 1 (fnCells f (.slice po f.params.length pc) (.slice ko f.code.length kc) (.slice zo f.calls.length zc)) ?_ rfl ?_ ?_ b1 b2 ?_ ?_; (simp [Act.eval,Act.put]); (exact World.ownsRow.drew (World.ownsRow.alloc HYs.out _)); (simp [Act.eval,Act.put]); (exact (new8_cells W _ _ _ _ _ _ _ _ _)); (exact vals8 _ _ _ _ _ _ _ _ rfl rfl rfl rfl rfl rfl rfl rfl); (simp; omega); intro v' w4 hown hgrow hwhere; obtain ⟨vo,vc,rfl⟩ := owns_shape' hown; have HG := hide (grown_alloc (grown_drew1 hgrow)); have HO4 := hide hown; have HWh := hide hwhere; have hmk := (HG.out.block w.heap.size yl (fun e => HLM.out.n1 e.symm)).trans HLM.out.blk; have k9 := cell_block hmk 0; have kf := free_block hmk; have kl := lt_of_some hmk; simp at k9; clear hown hgrow hwhere hmk)
          all_goals
            (try go_wp2_with fail)
            have HPut := hide (HLM.out.put HG.out HRW.out HYs.out HYf.out HO4.out (fun k e => (HWh.out k e).imp id (fun h => by simp at h; omega)))
            go_wp2
            go_roundg (gk - 1)
            case measure => omega
            case rel => exact ⟨q + 1,_,by omega,by first | rfl | go_num,by show Lnk _ _ _ _ _ _ _ _; rw [HApp.out]; exact HPut.out⟩
      · have hqe : q = fs.length := by omega
        have hq' : ¬ (q : Int) < (fs.length : Int) := by omega
        have HL2 := hide (show Lnk w.heap.size w.heap.size (w.heap.size + 1) S fv2 (os.take (j + 1)).flatten w _ by have := HLq.out; rw [hqe,List.take_length] at this; rw [HTk.out]; exact this)
        go_wp2
        go_roundg (gk1 - 1)
        case measure => omega
        case rel => exact ⟨j + 1,fv2,by omega,by first | rfl | go_num,HL2.out⟩
  have hje : j = os.length := by omega
  have hlt' : ¬ (j : Int) < (os.length : Int) := by omega
  have HLa := hide (show Bou w.heap.size w.heap.size (w.heap.size + 1) S fv (mapTo (bndF (plc os.flatten)) os.flatten 0) (plc os.flatten) w _ by
    have := HLr.out
    rw [hje,List.take_length] at this
    have h2 := this.bou
    have e : mapTo (bndF (plc os.flatten)) os.flatten 0 = os.flatten := by simp [mapTo]
    rw [e]
    exact h2)
  generalize hgA : os.flatten = al at *
  obtain ⟨fo2,fc2,hfv2⟩ : ∃ o c,fv = .slice o al.length c := by obtain ⟨ys,h1,_⟩ := HLa.out.row; rw [mapTo_len] at h1; exact owns_shape' h1
  subst hfv2
  have x0 := cell_block HLa.out.blk 0
  have xl := lt_of_some HLa.out.blk
  simp at x0
  go_wp2
  go_loopg [51] al.length (fun gq i wq => ∃ q : Nat,gq + q = al.length ∧ i = .int .i64 q ∧ Hid (Bou w.heap.size w.heap.size (w.heap.size + 1) S (.slice fo2 al.length fc2) (mapTo (bndF (plc al)) al q) (plc al) w wq))
  case atStart => exact ⟨0,by omega,rfl,HLa.out⟩
  obtain ⟨q,hq,rfl,HBq⟩ := hrel
  have y0 := cell_block HBq.out.blk 0
  have yl := lt_of_some HBq.out.blk
  simp at y0
  by_cases hqlt : q < al.length
  · obtain ⟨ys,hys,hyf⟩ := HBq.out.row
    have hql : q < (mapTo (bndF (plc al)) al q).length := by rw [mapTo_len]; exact hqlt
    obtain ⟨g,cap,cur,hfo,hg0,hgb,hgc,hgm,hgs,hgt⟩ := owr_shape hys (by omega)
    rw [mapTo_len] at hfo
    simp only [Value.slice.injEq,true_and] at hfo
    obtain ⟨rfl,rfl⟩ := hfo
    obtain ⟨pv,kv,lv,hrows,hcell⟩ := hyf.at q hql
    have hys2 := hys
    rw [mapTo_len] at hys2
    have hce : ∀ c,c < 8 → cur[q * 8 + c]? = (fnCells (mapTo (bndF (plc al)) al q)[q] pv kv lv)[c]? := fun c hc => by
      rw [← hcell c hc,← owns_cell hys2 (q * 8 + c) (by omega),cell_block hgb]
    obtain ⟨np,hpl⟩ := HBq.out.pla
    have hAt := mapTo_at (bndF (plc al)) al q hqlt
    have hokq := HOk.out _ (List.getElem_mem hqlt)
    have HCb := hide (bind_any wr g (q * 8) cur 92 hgb (mapTo (bndF (plc al)) al q)[q] pv kv lv (by rw [hce 6 (by omega)]; rfl) (by rw [hce 7 (by omega)]; rfl) hrows (fun k hk e => by
      rcases hk with h | h
      · omega
      · exact h.2.2.2 (by rw [e]; rfl)) (w.heap.size + 1) np (plc al) hpl (by rw [hAt]; exact hokq))
    have HSt := hide (fun (w' : World) (kv' : Value) hb hb' hk' => HBq.out.step (w' := w') (kv' := kv') q hql hgb hys hyf hrows hcell hb hb' hk')
    have HNx := hide (mapTo_next (bndF (plc al)) al q hqlt)
    have HAt := hide hAt
    have hqc : q < fc2 := by rw [mapTo_len] at hgc; omega
    clear hys hyf hgb hgt hrows hcell hys2 hce hpl hAt hokq
    go_wp2_with fail
    refine HCb.out.mono ?_
    rintro e w3 ⟨rfl,kv',hb3,hblk3,hrow3⟩
    have HS3 := hide (HSt.out w3 kv' hb3 hblk3 hrow3)
    clear hb3 hblk3 hrow3
    go_wp2
    go_roundg (gk - 1)
    case measure => omega
    case rel => exact ⟨q + 1,by omega,by first | rfl | go_num,by show Bou _ _ _ _ _ _ _ _ _; have := HS3.out; rw [HAt.out] at this; rw [HNx.out]; exact this⟩
  have hqe : q = al.length := by omega
  have hq' : ¬ (q : Int) < (al.length : Int) := by omega
  have HEnd := hide (show Bou w.heap.size w.heap.size (w.heap.size + 1) S (.slice fo2 al.length fc2) (linkP os) (plc al) w _ by
    have := HBq.out
    rw [hqe] at this
    unfold linkP
    rw [hgA]
    unfold mapTo at this
    rw [List.take_length,List.drop_length,List.append_nil] at this
    exact this)
  go_wp2
  go_ret
  obtain ⟨ys,h1,h2⟩ := HEnd.out.row
  refine ⟨w.heap.size,rfl,HEnd.out.bel,Nat.le_refl _,.slice fo2 al.length fc2,HEnd.out.blk,ys,CRow.of h1 (fun k e => Or.inr ⟨(owns_block h1 k e).1,fun e' => HEnd.out.n1 (by rw [← e']; exact e)⟩),h2.keep fun k hk _ => ⟨?_,rfl⟩⟩
  rcases hk with hk | hk
  · exact Or.inl hk
  exact Or.inr ⟨hk.1,hk.2.1⟩
end Go.Proofs.YtpmmjkiclngpmaaGreatDoor
namespace Go.Proofs
open Go.Shelf
def Tryz.keys44_ren : Go.Shelf.Ren := ⟨fun | 7 => 44 | 10 => 73 | n => n,fun | 23 => 99 | 26 => 9 | 3 => 107 | 28 => 103 | 0 => 0 | 27 => 102 | 33 => 114 | 4 => 4 | n => n,fun | n => n⟩
theorem Tryz.keys44 : Go.Proofs.SlLaysZ.n7 Tryz.prog Tryz.keys44_ren := {
  mixed := by kernel_rfl
  f7 := ⟨Tryz.f44.name,by decide,Tryz.func44.trans (congrArg some (by kernel_rfl))⟩
  f10 := ⟨Tryz.f73.name,by decide,Tryz.func73.trans (congrArg some (by kernel_rfl))⟩
  t0 := Tryz.underlying0
  a0 := Tryz.isAgg0
  z0 := Tryz.sizeOf0
  v0 := Tryz.zeroValue0
  t4 := Tryz.underlying4
  a4 := Tryz.isAgg4
  z4 := Tryz.sizeOf4
  v4 := Tryz.zeroValue4
  t23 := Tryz.underlying99
  a23 := Tryz.isAgg99
  z23 := Tryz.sizeOf99
  v23 := Tryz.zeroValue99
  t26 := Tryz.underlying9
  a26 := Tryz.isAgg9
  z26 := Tryz.sizeOf9
  v26 := Tryz.zeroValue9
  t27 := Tryz.underlying102
  a27 := Tryz.isAgg102
  z27 := Tryz.sizeOf102
  v27 := Tryz.zeroValue102
  t28 := Tryz.underlying103
  a28 := Tryz.isAgg103
  z28 := Tryz.sizeOf103
  v28 := Tryz.zeroValue103
  t33 := Tryz.underlying114
  a33 := Tryz.isAgg114
  z33 := Tryz.sizeOf114
  v33 := Tryz.zeroValue114 }
def Tryz.sorted43_ren : Go.Shelf.Ren := ⟨fun | 6 => 43 | 8 => 71 | 9 => 72 | 11 => 107 | 13 => 109 | 12 => 108 | 23 => 170 | 24 => 171 | 14 => 161 | 15 => 162 | 16 => 163 | 17 => 164 | 18 => 165 | 19 => 166 | 20 => 167 | 21 => 168 | 22 => 169 | 25 => 209 | 26 => 210 | 27 => 211 | 28 => 212 | 29 => 213 | 30 => 182 | 31 => 253 | n => n,fun | 26 => 9 | 28 => 103 | 24 => 58 | 0 => 0 | 3 => 3 | 37 => 208 | 48 => 292 | 50 => 294 | 4 => 4 | 40 => 284 | 39 => 283 | 45 => 289 | 5 => 5 | 9 => 9 | 51 => 344 | 55 => 348 | 57 => 372 | 58 => 330 | 33 => 114 | n => n,fun | n => n⟩
theorem Tryz.sorted43 : Go.Proofs.SlLaysZ.n6 Tryz.prog Tryz.sorted43_ren := {
  mixed := by kernel_rfl
  f6 := ⟨Tryz.f43.name,by decide,Tryz.func43.trans (congrArg some (by kernel_rfl))⟩
  f8 := ⟨Tryz.f71.name,by decide,Tryz.func71.trans (congrArg some (by kernel_rfl))⟩
  f11 := ⟨Tryz.f107.name,by decide,Tryz.func107.trans (congrArg some (by kernel_rfl))⟩
  t0 := Tryz.underlying0
  a0 := Tryz.isAgg0
  z0 := Tryz.sizeOf0
  v0 := Tryz.zeroValue0
  t24 := Tryz.underlying58
  a24 := Tryz.isAgg58
  z24 := Tryz.sizeOf58
  v24 := Tryz.zeroValue58
  t26 := Tryz.underlying9
  a26 := Tryz.isAgg9
  z26 := Tryz.sizeOf9
  v26 := Tryz.zeroValue9
  t28 := Tryz.underlying103
  a28 := Tryz.isAgg103
  z28 := Tryz.sizeOf103
  v28 := Tryz.zeroValue103
  i26 := by kernel_rfl }
def Tryz.sort72_ren : Go.Shelf.Ren := ⟨fun | 6 => 72 | 8 => 109 | 9 => 108 | 19 => 170 | 20 => 171 | 21 => 161 | 22 => 162 | 23 => 163 | 24 => 164 | 25 => 165 | 26 => 166 | 27 => 167 | 28 => 168 | 29 => 169 | 36 => 209 | 31 => 210 | 32 => 211 | 37 => 212 | 38 => 213 | 39 => 182 | 41 => 253 | n => n,fun | 27 => 58 | 29 => 9 | 3 => 3 | 32 => 208 | 26 => 58 | 0 => 0 | 44 => 292 | 46 => 294 | 4 => 4 | 36 => 284 | 35 => 283 | 41 => 289 | 5 => 5 | 9 => 9 | 53 => 344 | 57 => 348 | 63 => 372 | 64 => 330 | n => n,fun | n => n⟩
theorem Tryz.sort72 : Go.Proofs.SlLaysM.n6 Tryz.prog Tryz.sort72_ren := {
  mixed := by kernel_rfl
  f6 := ⟨Tryz.f72.name,by decide,Tryz.func72.trans (congrArg some (by kernel_rfl))⟩
  f8 := Tryz.func109.trans (congrArg some (by kernel_rfl))
  f9 := ⟨Tryz.f108.name,by decide,Tryz.func108.trans (congrArg some (by kernel_rfl))⟩
  f19 := Tryz.func170.trans (congrArg some (by kernel_rfl))
  f20 := Tryz.func171.trans (congrArg some (by kernel_rfl))
  f21 := ⟨Tryz.f161.name,by decide,Tryz.func161.trans (congrArg some (by kernel_rfl))⟩
  f22 := ⟨Tryz.f162.name,by decide,Tryz.func162.trans (congrArg some (by kernel_rfl))⟩
  f23 := ⟨Tryz.f163.name,by decide,Tryz.func163.trans (congrArg some (by kernel_rfl))⟩
  f24 := ⟨Tryz.f164.name,by decide,Tryz.func164.trans (congrArg some (by kernel_rfl))⟩
  f25 := ⟨Tryz.f165.name,by decide,Tryz.func165.trans (congrArg some (by kernel_rfl))⟩
  f26 := ⟨Tryz.f166.name,by decide,Tryz.func166.trans (congrArg some (by kernel_rfl))⟩
  f27 := ⟨Tryz.f167.name,by decide,Tryz.func167.trans (congrArg some (by kernel_rfl))⟩
  f28 := ⟨Tryz.f168.name,by decide,Tryz.func168.trans (congrArg some (by kernel_rfl))⟩
  f29 := ⟨Tryz.f169.name,by decide,Tryz.func169.trans (congrArg some (by kernel_rfl))⟩
  f31 := Tryz.func210.trans (congrArg some (by kernel_rfl))
  f32 := Tryz.func211.trans (congrArg some (by kernel_rfl))
  f36 := ⟨Tryz.f209.name,by decide,Tryz.func209.trans (congrArg some (by kernel_rfl))⟩
  f37 := ⟨Tryz.f212.name,by decide,Tryz.func212.trans (congrArg some (by kernel_rfl))⟩
  f38 := ⟨Tryz.f213.name,by decide,Tryz.func213.trans (congrArg some (by kernel_rfl))⟩
  f39 := ⟨Tryz.f182.name,by decide,Tryz.func182.trans (congrArg some (by kernel_rfl))⟩
  f41 := ⟨Tryz.f253.name,by decide,Tryz.func253.trans (congrArg some (by kernel_rfl))⟩
  t0 := Tryz.underlying0
  a0 := Tryz.isAgg0
  z0 := Tryz.sizeOf0
  v0 := Tryz.zeroValue0
  t3 := Tryz.underlying3
  a3 := Tryz.isAgg3
  z3 := Tryz.sizeOf3
  v3 := Tryz.zeroValue3
  t4 := Tryz.underlying4
  a4 := Tryz.isAgg4
  z4 := Tryz.sizeOf4
  v4 := Tryz.zeroValue4
  t5 := Tryz.underlying5
  a5 := Tryz.isAgg5
  z5 := Tryz.sizeOf5
  v5 := Tryz.zeroValue5
  t9 := Tryz.underlying9
  a9 := Tryz.isAgg9
  z9 := Tryz.sizeOf9
  v9 := Tryz.zeroValue9
  t26 := Tryz.underlying58
  a26 := Tryz.isAgg58
  z26 := Tryz.sizeOf58
  v26 := Tryz.zeroValue58
  t27 := Tryz.underlying58
  a27 := Tryz.isAgg58
  z27 := Tryz.sizeOf58
  v27 := Tryz.zeroValue58
  t29 := Tryz.underlying9
  a29 := Tryz.isAgg9
  z29 := Tryz.sizeOf9
  v29 := Tryz.zeroValue9
  t32 := Tryz.underlying208
  a32 := Tryz.isAgg208
  z32 := Tryz.sizeOf208
  v32 := Tryz.zeroValue208
  t35 := Tryz.underlying283
  a35 := Tryz.isAgg283
  z35 := Tryz.sizeOf283
  v35 := Tryz.zeroValue283
  t36 := Tryz.underlying284
  a36 := Tryz.isAgg284
  z36 := Tryz.sizeOf284
  v36 := Tryz.zeroValue284
  t41 := Tryz.underlying289
  a41 := Tryz.isAgg289
  z41 := Tryz.sizeOf289
  v41 := Tryz.zeroValue289
  t44 := Tryz.underlying292
  a44 := Tryz.isAgg292
  z44 := Tryz.sizeOf292
  v44 := Tryz.zeroValue292
  t46 := Tryz.underlying294
  a46 := Tryz.isAgg294
  z46 := Tryz.sizeOf294
  v46 := Tryz.zeroValue294
  t53 := Tryz.underlying344
  a53 := Tryz.isAgg344
  z53 := Tryz.sizeOf344
  v53 := Tryz.zeroValue344
  t57 := Tryz.underlying348
  a57 := Tryz.isAgg348
  z57 := Tryz.sizeOf348
  v57 := Tryz.zeroValue348
  t63 := Tryz.underlying372
  a63 := Tryz.isAgg372
  z63 := Tryz.sizeOf372
  v63 := Tryz.zeroValue372
  t64 := Tryz.underlying330
  a64 := Tryz.isAgg330
  z64 := Tryz.sizeOf330
  v64 := Tryz.zeroValue330 }
def Tryz.keys80_ren : Go.Shelf.Ren := ⟨fun | 7 => 80 | 10 => 125 | n => n,fun | 23 => 81 | 26 => 9 | 3 => 157 | 28 => 103 | 0 => 0 | 27 => 102 | 33 => 114 | 4 => 4 | n => n,fun | n => n⟩
theorem Tryz.keys80 : Go.Proofs.SlLaysZ.n7 Tryz.prog Tryz.keys80_ren := {
  mixed := by kernel_rfl
  f7 := ⟨Tryz.f80.name,by decide,Tryz.func80.trans (congrArg some (by kernel_rfl))⟩
  f10 := ⟨Tryz.f125.name,by decide,Tryz.func125.trans (congrArg some (by kernel_rfl))⟩
  t0 := Tryz.underlying0
  a0 := Tryz.isAgg0
  z0 := Tryz.sizeOf0
  v0 := Tryz.zeroValue0
  t4 := Tryz.underlying4
  a4 := Tryz.isAgg4
  z4 := Tryz.sizeOf4
  v4 := Tryz.zeroValue4
  t23 := Tryz.underlying81
  a23 := Tryz.isAgg81
  z23 := Tryz.sizeOf81
  v23 := Tryz.zeroValue81
  t26 := Tryz.underlying9
  a26 := Tryz.isAgg9
  z26 := Tryz.sizeOf9
  v26 := Tryz.zeroValue9
  t27 := Tryz.underlying102
  a27 := Tryz.isAgg102
  z27 := Tryz.sizeOf102
  v27 := Tryz.zeroValue102
  t28 := Tryz.underlying103
  a28 := Tryz.isAgg103
  z28 := Tryz.sizeOf103
  v28 := Tryz.zeroValue103
  t33 := Tryz.underlying114
  a33 := Tryz.isAgg114
  z33 := Tryz.sizeOf114
  v33 := Tryz.zeroValue114 }
end Go.Proofs
namespace Go.Proofs.YtpmmjkiclngpmaaGreatDoor
open Go.RowKit Go.Maps Go.Sort Go.Shelf
theorem before_lt : ∀ {a b : Nm},bytesBefore a b = true → a < b
  | [],[],h => by cases h
  | [],_ :: _,_ => List.nil_lt_cons _ _
  | _ :: _,[],h => by cases h
  | a :: r,b :: s,h => by
    unfold bytesBefore at h
    simp only [Bool.or_eq_true,Bool.and_eq_true,decide_eq_true_eq,beq_iff_eq] at h
    rw [List.cons_lt_cons_iff]
    rcases h with h | ⟨rfl,h⟩
    · exact Or.inl h
    · exact Or.inr ⟨rfl,before_lt h⟩
theorem strKeys_keysD (ns : List Nm) (ov : Nm → Value) : strKeys (keysD ns ov) = ns := by
  show (ns.map fun n => (Lit.string n,DataW.held (ov n))).map (fun p => strOf p.1) = ns
  rw [List.map_map]
  exact List.map_id' ns
theorem sort_rising {ns ss : List Nm} (hr : Rising ns) (hp : ss.Perm ns) : ss.mergeSort (fun x y => decide (x ≤ y)) = ns := by
  rw [mergeSort_of_perm hp]
  exact List.mergeSort_of_pairwise (hr.imp fun {a b} h => by simpa using List.le_of_lt (before_lt h))
abbrev strCs (l : List Nm) : List Value := l.map Go.Proofs.encStr
theorem sorts_in (m : Nat) : AnyZ.SortsIn Tryz.prog Tryz.sorted43_ren Fence.wide m :=
  ⟨fun blk off cap ss W hH hblk hsz => callsIn_wide.2 (AnyM.slices_Sort_string Tryz.sort72 blk off cap ss W hH hblk hsz),
   fun p cap W => callsIn_wide.2 (AnyM.slices_Sort_string_none Tryz.sort72 p cap W)⟩
theorem keysF_any (mb : Option Nat) (W : World) : Calls Tryz.prog 44 #[.map mb] W fun e w' => e = .returned (.func (.func 73) #[] #[.pointer (some ⟨W.heap.size,0,none⟩)]) ∧ w' = W.alloc (.cells #[.map mb] 99) :=
  callsIn_wide.1 (AnyZ.keys_in Tryz.keys44 Fence.wide 5 trivial rfl mb W)
theorem sortedF_any {ns : List Nm} {ov : Nm → Value} (b : Nat) (w : World) (hown : MapF Tryz.prog w 9 b ns ov) (hn : ns.length ≤ 1000) :
    Calls Tryz.prog 43 #[.func (.func 73) #[] #[.pointer (some ⟨w.heap.size,0,none⟩)]] (w.alloc (.cells #[.map (some b)] 99)) fun e w' => ∃ v,e = .returned v ∧
      w'.ownsRow w.heap.size 9 1 v ns.length (strCs ns) ∧ Below w.heap.size (w.alloc (.cells #[.map (some b)] 99)) w' := by
  have hbl := hown.lt
  have hr := hown.rising strK
  have hsz : Maps.size (keysD ns ov) = ns.length := keysD_size ns ov
  have hseq : SeqGives Fence.wide 2 Tryz.prog 73 #[.pointer (some ⟨w.heap.size,0,none⟩)] encStr (fun ss => ss.Perm (strKeys (keysD ns ov))) (Maps.size (keysD ns ov)) (w.alloc (.cells #[.map (some b)] 99)) :=
    AnyZ.keys_gives (ρ := Tryz.keys44_ren) { Tryz.keys44 with } Fence.wide _ trivial rfl (by omega) w.heap.size b ns.length (keysD ns ov) _ (by simp) (by simp) (hown.below ((Below.refl _ _).alloc (Nat.le_refl _) _))
  have h := AnyZ.sorted_in Tryz.sorted43 Fence.wide 5 trivial trivial trivial trivial rfl (by omega) (sorts_in _) (enters_of Tryz.func72 (by kernel_rfl) rfl) 73 #[.pointer (some ⟨w.heap.size,0,none⟩)] trivial (enters_of Tryz.func73 (by kernel_rfl) rfl) _ _ (by rw [hsz]; unfold maxLen; omega) (by rw [hsz]; omega) _ hseq
  refine (callsIn_wide.1 h).mono ?_
  rintro e w' ⟨v,ss,rfl,hS,hrow,hnil,hb⟩
  rw [strKeys_keysD] at hS
  rw [sort_rising hr hS,hS.length_eq] at hrow
  exact ⟨v,rfl,own_base hrow (by simp),hb.mono (by simp)⟩
theorem keysC_any (mb : Option Nat) (W : World) : Calls Tryz.prog 80 #[.map mb] W fun e w' => e = .returned (.func (.func 125) #[] #[.pointer (some ⟨W.heap.size,0,none⟩)]) ∧ w' = W.alloc (.cells #[.map mb] 81) :=
  callsIn_wide.1 (AnyZ.keys_in Tryz.keys80 Fence.wide 5 trivial rfl mb W)
theorem sortedC_any {ns : List Nm} {ov : Nm → Value} (b : Nat) (w : World) (hown : MapF Tryz.prog w 9 b ns ov) (hn : ns.length ≤ 1000) :
    Calls Tryz.prog 43 #[.func (.func 125) #[] #[.pointer (some ⟨w.heap.size,0,none⟩)]] (w.alloc (.cells #[.map (some b)] 81)) fun e w' => ∃ v,e = .returned v ∧
      w'.ownsRow w.heap.size 9 1 v ns.length (strCs ns) ∧ Below w.heap.size (w.alloc (.cells #[.map (some b)] 81)) w' := by
  have hbl := hown.lt
  have hr := hown.rising strK
  have hsz : Maps.size (keysD ns ov) = ns.length := keysD_size ns ov
  have hseq : SeqGives Fence.wide 2 Tryz.prog 125 #[.pointer (some ⟨w.heap.size,0,none⟩)] encStr (fun ss => ss.Perm (strKeys (keysD ns ov))) (Maps.size (keysD ns ov)) (w.alloc (.cells #[.map (some b)] 81)) :=
    AnyZ.keys_gives (ρ := Tryz.keys80_ren) { Tryz.keys80 with } Fence.wide _ trivial rfl (by omega) w.heap.size b ns.length (keysD ns ov) _ (by simp) (by simp) (hown.below ((Below.refl _ _).alloc (Nat.le_refl _) _))
  have h := AnyZ.sorted_in Tryz.sorted43 Fence.wide 5 trivial trivial trivial trivial rfl (by omega) (sorts_in _) (enters_of Tryz.func72 (by kernel_rfl) rfl) 125 #[.pointer (some ⟨w.heap.size,0,none⟩)] trivial (enters_of Tryz.func125 (by kernel_rfl) rfl) _ _ (by rw [hsz]; unfold maxLen; omega) (by rw [hsz]; omega) _ hseq
  refine (callsIn_wide.1 h).mono ?_
  rintro e w' ⟨v,ss,rfl,hS,hrow,hnil,hb⟩
  rw [strKeys_keysD] at hS
  rw [sort_rising hr hS,hS.length_eq] at hrow
  exact ⟨v,rfl,own_base hrow (by simp),hb.mono (by simp)⟩
end Go.Proofs.YtpmmjkiclngpmaaGreatDoor
namespace Go.Proofs.YtpmmjkiclngpmaaGreatDoor
open Go.RowKit Go.Maps
def funsOf (m : Md) : List CF := (m.obj.map fun o => o.funs).getD []
theorem info_cobj : (Tryz.prog.info? 151).map (fun i => (i.zero,i.size,i.bytes)) = some (some (.agg #[.slice none 0 0]),1,24) := by kernel_rfl
theorem FnRow.mono {S S' : Nat → Prop} {w : World} {v : Value} {fs : List CF} (h : FnRow S w v fs) (hk : ∀ k,S k → k < w.heap.size → S' k) : FnRow S' w v fs := h.keep fun k h1 h2 => ⟨hk k h1 h2,rfl⟩
theorem FnRow.slice {S : Nat → Prop} {w : World} {v : Value} {fs : List CF} (h : FnRow S w v fs) : ∃ o c,v = .slice o fs.length c := by obtain ⟨xs,a,_⟩ := h; exact owns_shape' a.1
theorem names_at (L : List Md) (j : Nat) (hj : j < L.length) : (strCs (names L))[j]? = some (.string ⟨(L[j].name).toArray⟩) := by
  simp [strCs,names,hj,Go.Proofs.encStr]
structure Obs (lo : Nat) (S : Nat → Prop) (sv : Value) (l : List Md) (w0 w : World) : Prop where
  bel : Below lo w0 w
  row : ∃ fvs,w.ownsRow lo 151 1 sv l.length fvs ∧ ∀ i (h : i < l.length) (h2 : i < fvs.length),FnRow S w fvs[i] (funsOf l[i])
theorem stLink_any {w : World} {p : SP} {s : Sto} (h : StAt w p s) (v : Value) (base : Nat) (hn : w.ownsRow base 9 1 v s.L.length (strCs (names s.L))) (hex : ∀ k,p.ex k → k < w.heap.size) (hob : ∀ m ∈ s.L,m.obj.isSome = true)
    (hlen : (s.L.map funsOf).flatten.length ≤ 100000) (hok : ∀ f ∈ (s.L.map funsOf).flatten,CFok f) :
    Calls Tryz.prog 47 #[.pointer (some ⟨p.sb,0,none⟩),v] w fun e w' => ∃ ib fv,e = .returned (.pointer (some ⟨ib,0,none⟩)) ∧ Below w.heap.size w w' ∧ ¬ p.out ib ∧ w'.heap[ib]? = some (.cells #[fv] 95 (0,0)) ∧
      FnRow (fun k => ¬ p.out k) w' fv (linkP (s.L.map funsOf)) := by
  obtain ⟨c0,c1,_,hl⟩ := h.field
  obtain ⟨vo,vc,hv⟩ := owns_shape' hn
  subst hv
  have hfew := h.few.1
  have HS := hide h
  have HN := hide hn
  have HOb := hide hob
  have HLt := hide (show ∀ k,p.out k → k < w.heap.size from fun k hk => hk.elim h.lt (hex k))
  have HLen := hide hlen
  have HOk := hide hok
  obtain ⟨i0,hi,hz0,hz1,hz2⟩ := info_parts info_cobj
  have ho1 := fieldo1
  obtain ⟨ov,hov,hobs⟩ := h.objs
  have HOv := hide hov
  have HObs := hide hobs
  have HO := hide (show Obs w.heap.size (fun k => ¬ p.out k ∧ k < w.heap.size) (.slice none 0 0) (s.L.take 0) w w from ⟨Below.refl _ _,[],World.ownsRow_nil _ _ _ _,fun i hi => absurd hi (by simp)⟩)
  clear h hn hob hex hlen hok hov hobs
  go_enter Tryz.func47,Tryz.ntmps47
  go_wp2
  go_loopg [5,10] s.L.length (fun gk s5 i wr => ∃ j : Nat,gk + j = s.L.length ∧ i = .int .i64 j ∧ Hid (Obs w.heap.size (fun k => ¬ p.out k ∧ k < w.heap.size) s5 (s.L.take j) w wr))
  case atStart => exact ⟨0,by omega,rfl,HO.out⟩
  obtain ⟨j,hj,rfl,HOr⟩ := hrel
  obtain ⟨fvs,hrow,hfn⟩ := HOr.out.row
  have hszr := HOr.out.bel.size
  by_cases hlt : j < s.L.length
  · have hlt' : (j : Int) < (s.L.length : Int) := by omega
    have htl : (s.L.take j).length = j := by rw [List.length_take]; omega
    have HTk := hide (show s.L.take (j + 1) = s.L.take j ++ [s.L[j]] from List.take_succ_eq_append_getElem hlt)
    rw [htl] at hrow
    obtain ⟨so,sc,hsv⟩ := owns_shape' hrow
    subst hsv
    obtain ⟨nb,cap,cur,hvo,_,hnb,hnc,_⟩ := owr_shape HN.out (by omega)
    simp only [Value.slice.injEq,true_and] at hvo
    obtain ⟨rfl,rfl⟩ := hvo
    have hnbl := lt_of_some hnb
    have q0 := (below_cell HOr.out.bel hnbl j).trans ((owns_cell HN.out j (by omega)).trans (names_at s.L j hlt))
    have hnbr : nb < wr.heap.size := by omega
    have hm := List.getElem_mem hlt
    have HSr := hide (HS.out.below HOr.out.bel)
    obtain ⟨d0,d1,_,dl⟩ := HSr.out.field
    have hsome := HOb.out _ hm
    obtain ⟨o,hmo⟩ := Option.isSome_iff_exists.1 hsome
    obtain ⟨fv,uv,hval,hfr,huv⟩ := HObs.out _ hm o hmo
    have hsm := HSr.out.small _ hm
    have hml : s.L[j].name.length ≤ maxLen := by unfold maxLen; omega
    have hlk := (HOv.out.below HOr.out.bel).look strK und_obj (Tryz.zeroValue154 wr) (key_str hml)
    rw [if_pos ((mem_haves HSr.out.rising hm).2 hsome),hval] at hlk
    obtain ⟨fo,fc,rfl⟩ := hfr.slice
    obtain ⟨uo,uc,rfl⟩ := owns_shape' huv.1
    have hfo : funsOf s.L[j] = o.funs := by unfold funsOf; rw [hmo]; rfl
    have HFr := hide (show FnRow (fun k => ¬ p.out k ∧ k < w.heap.size) wr (.slice fo o.funs.length fc) (funsOf s.L[j]) by rw [hfo]; exact hfr.keep fun k h1 h2 => ⟨⟨h1,h2⟩,HOr.out.bel.block k h2⟩)
    have HFn := hide hfn
    have HRow := hide hrow
    have hfl : fvs.length = j := by have := hrow.1; simpa using this
    have HFl := hide hfl
    have hjc : j < vc := by omega
    have b1 : j + 1 ≤ maxLen := by unfold maxLen; omega
    have b2 : (j + 1) * 24 ≤ 140737488355328 := by omega
    clear hrow hfn hnb hsome hmo hval hfr huv hfl
    generalize hgm : s.L[j] = m at *
    go_wp2_with (at_builtin; refine app_where _ rfl _ _ 163 rfl w.heap.size 151 i0 (.agg #[.slice none 0 0]) 1 24 Tryz.underlying163 hi hz0 hz1 hz2 rfl (by decide) (.slice so j sc) j fvs rfl (HRow.out.alloc _) ⟨wr.heap.size,0,none⟩ 1 1 [.slice fo o.funs.length fc] rfl rfl (fun j u hj => newp_cells wr _ _ j u hj) (by intro u hu; simp at hu; subst hu; rfl) (by omega) b1 b2 (by simp; omega) ?_)
    intro g' cap' w3 hown hgrow hwhere
    have hgrow2 := grown_alloc hgrow
    have HO3 := hide (show Obs w.heap.size (fun k => ¬ p.out k ∧ k < w.heap.size) (.slice (some ⟨g',0,none⟩) (j + 1) cap') (s.L.take (j + 1)) w w3 from by
      have hlt2 : ∀ k,k < w.heap.size → (Value.slice so j sc).ownBlock ≠ some k := fun k hk e => by have := (owns_block HRow.out k e).1; omega
      refine ⟨HOr.out.bel.trans ⟨hgrow2.os,hgrow2.tape,hgrow2.output,hgrow2.size,fun k hk => hgrow2.block k (by omega) (fun e => hlt2 k hk e.symm)⟩,fvs ++ [.slice fo o.funs.length fc],?_,?_⟩
      · rw [HTk.out,List.length_append,htl]; exact hown
      · intro i h1 h2
        have hkeep : ∀ k,(¬ p.out k ∧ k < w.heap.size) → k < wr.heap.size → (¬ p.out k ∧ k < w.heap.size) ∧ w3.heap[k]? = wr.heap[k]? := fun k q1 q2 => ⟨q1,hgrow2.block k q2 (fun e => hlt2 k q1.2 e.symm)⟩
        rcases Nat.lt_or_ge i j with hij | hij
        · have e1 : (fvs ++ [.slice fo o.funs.length fc])[i] = fvs[i]'(by have := HFl.out; omega) := List.getElem_append_left (by have := HFl.out; omega)
          have e2 : (s.L.take (j + 1))[i] = (s.L.take j)[i]'(by rw [htl]; exact hij) := by simp
          rw [e1,e2]
          exact (HFn.out i (by rw [htl]; exact hij) (by have := HFl.out; omega)).keep hkeep
        · have hi : i = j := by rw [List.length_take] at h1; omega
          subst hi
          have hfl := HFl.out
          have e1 : (fvs ++ [.slice fo o.funs.length fc])[i] = .slice fo o.funs.length fc := by
            rw [List.getElem_append_right (by omega)]; simp [hfl]
          have e2 : (s.L.take (i + 1))[i] = m := by rw [List.getElem_take]; exact hgm
          rw [e1,e2]
          exact HFr.out.keep hkeep)
    clear hown hgrow hgrow2 hwhere
    go_wp2
    go_roundg (gk - 1)
    case measure => omega
    case rel => exact ⟨j + 1,by omega,by first | rfl | go_num,HO3.out⟩
  have hje : j = s.L.length := by omega
  have hlt' : ¬ (j : Int) < (s.L.length : Int) := by omega
  have htl : (s.L.take j).length = (s.L.map funsOf).length := by rw [List.length_take,List.length_map]; omega
  rw [htl] at hrow
  obtain ⟨so,sc,hsv⟩ := owns_shape' hrow
  rw [List.length_map] at hsv
  subst hsv
  have HCall := hide (link_any wr (fun k => ¬ p.out k ∧ k < w.heap.size) (.slice so s.L.length sc) fvs (s.L.map funsOf) w.heap.size hrow (fun i h1 h2 => by
    have := hfn i (by rw [htl]; exact h1) h2
    have e : (s.L.take j)[i]'(by rw [htl]; exact h1) = s.L[i]'(by rw [List.length_map] at h1; exact h1) := by simp
    rw [e] at this
    rw [List.getElem_map]
    exact this) HLen.out (by rw [List.length_map]; omega) HOk.out)
  have HB := hide HOr.out.bel
  clear hrow hfn
  go_wp2_with fail
  refine HCall.out.mono ?_
  rintro e w3 ⟨ib,fv,rfl,hb3,hib,hblk3,hfn3⟩
  have HB3 := hide (HB.out.trans (hb3.mono hszr))
  have HBk := hide hblk3
  have HF3 := hide hfn3
  clear hb3 hblk3 hfn3
  go_wp2
  go_ret
  refine ⟨ib,fv,rfl,HB3.out,fun ho => ?_,HBk.out,HF3.out.mono fun k hk _ ho => ?_⟩
  · have := HLt.out _ ho; omega
  have hlo := HLt.out _ ho
  rcases hk with hk | hk
  · exact hk.1.1 ho
  omega
end Go.Proofs.YtpmmjkiclngpmaaGreatDoor
