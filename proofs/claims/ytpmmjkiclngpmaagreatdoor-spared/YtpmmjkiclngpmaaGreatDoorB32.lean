/- YtpmmjkiclngpmaaGreatDoorB32 -/
import Derived.Test.YtpmmjkiclngpmaaGreatDoorB30
import Derived.Test.YtpmmjkiclngpmaaGreatDoorB13
import Derived.Test.YtpmmjkiclngpmaaGreatDoorB31
import Derived.Deep.LoopGhost
import Derived.BigQuiet
set_option maxRecDepth 100000
set_option linter.unusedSimpArgs false
set_option linter.unusedVariables false
set_option maxHeartbeats 12800000
namespace Go.Proofs.YtpmmjkiclngpmaaGreatDoor
open Go.RowKit Go.Lib
abbrev UsS := { u : Us // u.m.length ≤ 100000 }
abbrev UsS.some1 : Inhabited UsS := ⟨⟨⟨[],[],[]⟩,by simp⟩⟩
def encS (u : UsS) : List Value := [.string ⟨u.1.m.toArray⟩,.string ⟨u.1.n.toArray⟩,.string ⟨u.1.s.toArray⟩]
theorem fieldf0 (a b : Value) (w : World) : (Instr.field 107 (.agg #[a,b]) 0).run Tryz.prog w = .ok a w := by kernel_rfl
theorem fieldk0 (a : Value) (w : World) : (Instr.field 129 (.agg #[a]) 0).run Tryz.prog w = .ok a w := by kernel_rfl
theorem fieldo1 (a b c : Value) (w : World) : (Instr.field 154 (.agg #[a,b,c]) 1).run Tryz.prog w = .ok (.agg #[b]) w := by kernel_rfl
def holdsU (E : Nm → Option Mod) (u : Us) : Bool := seenT (E u.m) u.n == u.s
theorem hold1_any {lo : Nat} {w W : World} {fb : Nat} {L : List Md} {tr : Nm → Option (Nat × Mod)} (h : FormsI lo w fb L tr) (hs : ∀ m ∈ L,m.name.length ≤ 8 ∧ m.now.length ≤ 600) (B : Nat) (hB : B < w.heap.size) (hc : w.cell? ⟨B,0,none⟩ = some (.map (some fb))) (x : UsS) (hW : Below w.heap.size w W) :
    Calls Tryz.prog 111 #[.agg #[.string ⟨x.1.m.toArray⟩,.string ⟨x.1.n.toArray⟩,.string ⟨x.1.s.toArray⟩],.pointer (some ⟨B,0,none⟩)] W fun e w' => e = .returned (.bool (!holdsU (formE L) x.1)) ∧ Below w.heap.size w w' := by
  obtain ⟨⟨um,un,us⟩,hu⟩ := x
  simp only at hu ⊢
  have hml : um.length ≤ maxLen := by unfold maxLen; omega
  have c0 := (below_cell hW hB 0).trans hc
  have hBW : B < W.heap.size := by have := hW.size; omega
  have hb1 : Below w.heap.size w ((W.alloc (.cells #[.string ⟨um.toArray⟩,.string ⟨un.toArray⟩,.string ⟨us.toArray⟩] 185)).drew) := (hW.alloc hW.size _).drew
  have HB1 := hide hb1
  have hf := h.below hb1
  have hlk := hf.look um hml
  have HMay := hide (hf.may hs um)
  have hnb : B ≠ W.heap.size := by omega
  have HE := hide (show holdsU (formE L) ⟨um,un,us⟩ = (seenT ((tr um).map Prod.snd) un == us) by unfold holdsU; rw [h.is])
  have hf0 := fieldf0
  clear hb1 hf h
  go_enter Tryz.func111,Tryz.ntmps111
  go_wp2_with fail
  go_region_law (refine step_call rfl 112 #[.tmp 8,.tmp 10] #[105,9] rfl Tryz.call112 #[.pointer (mptr (tr um)),.string ⟨un.toArray⟩] ?_ (seen_any _ (tr um) HMay.out un) ?_; (simp [Act.eval,Act.put]); rintro e w3 ⟨rfl,hb3⟩; refine ⟨_,rfl,?_⟩; have HB3 := hide (HB1.out.trans (hb3.mono HB1.out.size)); have hbb := hb3.block W.heap.size (by simp); have r2 := (World.cell?_of_block (a := ⟨W.heap.size,2,none⟩) hbb); have rl : W.heap.size < w3.heap.size := (by have := hb3.size; simp at this; omega); simp at r2; clear hb3 hbb)
  all_goals
    (try go_wp2_with fail)
    go_ret
    exact ⟨ret_bool (by rw [HE.out]),HB3.out⟩
theorem indexU_nil (fv : Value) (w : World) : Calls Tryz.prog 172 #[.slice none 0 0,fv] w fun e w' => e = .returned (.int .i64 (-1)) ∧ w' = w := by
  go_enter Tryz.func172,Tryz.ntmps172
  go_wp2
  go_loop [8] (fun i => i = .int .i64 0) (fun i => 0)
  case atStart => rfl
  case round =>
    subst hrel
    go_wp2
    go_ret
    exact ⟨rfl,rfl⟩
theorem containsU_nil (fv : Value) (w : World) : Calls Tryz.prog 110 #[.slice none 0 0,fv] w fun e w' => e = .returned (.bool false) ∧ w' = w := by
  go_enter Tryz.func110,Tryz.ntmps110
  go_wp2_with fail
  refine (indexU_nil fv w).mono ?_
  rintro e w ⟨rfl,rfl⟩
  go_wp2
  go_ret
  exact ⟨rfl,rfl⟩
theorem useCells_at (l : List Us) (j : Nat) (hj : j < l.length) : (useCells l)[j * 3]? = some (.string ⟨l[j].m.toArray⟩) ∧ (useCells l)[j * 3 + 1]? = some (.string ⟨l[j].n.toArray⟩) ∧ (useCells l)[j * 3 + 2]? = some (.string ⟨l[j].s.toArray⟩) := by
  induction l generalizing j with
  | nil => simp at hj
  | cons x r ih =>
    rw [show useCells (x :: r) = .string ⟨x.m.toArray⟩ :: .string ⟨x.n.toArray⟩ :: .string ⟨x.s.toArray⟩ :: useCells r from rfl]
    cases j with
    | zero => exact ⟨rfl,rfl,rfl⟩
    | succ j =>
      have := ih j (by simpa using hj)
      rw [show (j + 1) * 3 = j * 3 + 1 + 1 + 1 by omega]
      simpa using this
theorem hold_any {lo : Nat} {w : World} {fb : Nat} {L : List Md} {tr : Nm → Option (Nat × Mod)} (h : FormsI lo w fb L tr) (hs : ∀ m ∈ L,m.name.length ≤ 8 ∧ m.now.length ≤ 600) (uv : Value) (us : List Us) (hr : w.ownsRow 0 185 3 uv us.length (useCells us)) (hu : ∀ u ∈ us,u.m.length ≤ 100000) (hn : us.length ≤ 1000000000000) :
    Calls Tryz.prog 74 #[.map (some fb),uv] w fun e w' => e = .returned (.bool (us.all (holdsU (formE L)))) ∧ Below w.heap.size w w' := by
  have HBl := hide (show Below w.heap.size w (w.alloc (.cells #[.map (some fb)] 99)) from (Below.refl _ _).alloc (Nat.le_refl _) _)
  rcases hr.2 with ⟨rfl,h0⟩ | ⟨g,cap,cur,rfl,hg0,hblk,hnc,hcm,hcs,htk⟩
  · have hx : us = [] := List.eq_nil_of_length_eq_zero h0
    subst hx
    have HC := hide (fun fv => containsU_nil fv (w.alloc (.cells #[.map (some fb)] 99)))
    clear h hr hu hn h0
    go_enter Tryz.func74,Tryz.ntmps74
    go_wp2_with fail
    refine (HC.out _).mono ?_
    rintro e w1 ⟨rfl,rfl⟩
    go_wp2
    go_ret
    exact ⟨rfl,HBl.out⟩
  · have eg : ∀ args w,(callFunc 111 args).run Tryz.prog w = .ok (.enter 111 args) w := enters_of Tryz.func111 (by kernel_rfl) rfl
    have hgl := lt_of_some hblk
    have hzs : (us.attach.map fun u => (⟨u.1,hu u.1 u.2⟩ : UsS)).length = us.length := by simp
    have hga : ∀ j,(hj : j < us.length) → ((us.attach.map fun u => (⟨u.1,hu u.1 u.2⟩ : UsS))[j]'(by rw [hzs]; exact hj)).1 = us[j] := fun j hj => by simp
    have hany : ((us.attach.map fun u => (⟨u.1,hu u.1 u.2⟩ : UsS)).any fun x => !holdsU (formE L) x.1) = !us.all (holdsU (formE L)) := by
      rw [List.any_map,Bool.eq_iff_iff]
      simp
    obtain ⟨zs,hzz⟩ : ∃ zs,(us.attach.map fun u => (⟨u.1,hu u.1 u.2⟩ : UsS)) = zs := ⟨_,rfl⟩
    rw [hzz] at hzs hany
    have hp : PredBelow Tryz.prog 111 #[.pointer (some ⟨w.heap.size,0,none⟩)] (fun x => .agg (encS x).toArray) (fun x => !holdsU (formE L) x.1) (w.alloc (.cells #[.map (some fb)] 99)) :=
      fun W x hb => hold1_any (h.below HBl.out) hs w.heap.size (by simp) (by simp) x hb
    have hinh := UsS.some1
    have hcon := AnyQ.slices_ContainsFunc Tryz.containsU 3 Tryz.isAgg185 Tryz.sizeOf185 encS (fun _ => rfl) (fun x => !holdsU (formE L) x.1) 111 #[.pointer (some ⟨w.heap.size,0,none⟩)] eg g 0 us.length cap zs (w.alloc (.cells #[.map (some fb)] 99)) hp (by omega) (by omega) (by simp; omega) (fun j hj i v hi => by
      have hj' : j < us.length := by omega
      have e : zs[j]!.1 = us[j] := by rw [getElem!_pos zs j hj]; subst hzz; exact hga j hj'
      have hcell : ∀ i,i < us.length * 3 → (w.alloc (.cells #[.map (some fb)] 99)).cell? ⟨g,i,none⟩ = (useCells us)[i]? := fun i hi => by
        rw [World.cell?_of_block (Below.heap_alloc _ _ _ hgl)]
        exact owns_cell hr i hi
      have hat := useCells_at us j hj'
      unfold encS at hi
      rw [e] at hi
      match i,hi with
      | 0,hi => simp at hi; subst hi; rw [Nat.zero_add,Nat.add_zero,hcell _ (by omega)]; exact hat.1
      | 1,hi => simp at hi; subst hi; rw [Nat.zero_add,hcell _ (by omega)]; exact hat.2.1
      | 2,hi => simp at hi; subst hi; rw [Nat.zero_add,hcell _ (by omega)]; exact hat.2.2
      | i + 3,hi => simp at hi)
    rw [List.take_of_length_le (by omega),hany] at hcon
    have HC := hide (show Calls Tryz.prog 110 #[.slice (some ⟨g,0,none⟩) us.length cap,.func (.func 111) #[] #[.pointer (some ⟨w.heap.size,0,none⟩)]] (w.alloc (.cells #[.map (some fb)] 99)) _ from hcon)
    clear hcon hp hany hga hr hblk htk
    go_enter Tryz.func74,Tryz.ntmps74
    go_wp2_with fail
    refine HC.out.mono ?_
    rintro e w1 ⟨rfl,hb1⟩
    have HB1 := hide (HBl.out.trans (hb1.mono HBl.out.size))
    clear hb1
    go_wp2
    go_ret
    exact ⟨ret_bool (by simp),HB1.out⟩
end Go.Proofs.YtpmmjkiclngpmaaGreatDoor
namespace Go.Proofs.YtpmmjkiclngpmaaGreatDoor
open Go.RowKit
theorem info_modp : (Tryz.prog.info? 105).map (fun i => (i.zero,i.size,i.bytes)) = some (some (.pointer none),1,8) := by kernel_rfl
theorem newp_cells (w : World) (a : Value) (t : TypeId) : ∀ j u,[a][j]? = some u → (w.alloc (.cells #[a] t)).cell? ((⟨w.heap.size,0,none⟩ : Addr).add j) = some u := by
  intro j u hj
  match j,hj with
  | 0,hj => simp at hj; subst hj; simp [Addr.add]
structure Vi (lo vb : Nat) (nm : Nm) (mb : Nat) (iv : Value) (pts : List (Option Addr)) (w0 w : World) : Prop where
  bel : Below lo w0 w
  low : lo ≤ vb
  blk : w.heap[vb]? = some (.cells #[.string ⟨nm.toArray⟩,.pointer (some ⟨mb,0,none⟩),iv,.slice none 0 0] 214 (0,0))
  imp : w.ownsRow lo 105 1 iv pts.length (ptrCells pts)
  n1 : iv.ownBlock ≠ some vb
theorem Vi.below {lo vb : Nat} {nm : Nm} {mb : Nat} {iv : Value} {pts : List (Option Addr)} {w0 w w' : World} (h : Vi lo vb nm mb iv pts w0 w) (hb : Below w.heap.size w w') (hl : lo ≤ w.heap.size) : Vi lo vb nm mb iv pts w0 w' :=
  ⟨h.bel.trans (hb.mono hl),h.low,(hb.block _ (lt_of_some h.blk)).trans h.blk,owr_keep h.imp (fun k _ l => hb.block k l),h.n1⟩
theorem Vi.put {lo vb : Nat} {nm : Nm} {mb : Nat} {iv : Value} {pts : List (Option Addr)} {w0 w w2 : World} (h : Vi lo vb nm mb iv pts w0 w) (hg : w.grownBy w2 iv.ownBlock) (v' : Value) (x : Option Addr)
    (ho : w2.ownsRow lo 105 1 v' (pts.length + 1) (ptrCells pts ++ [.pointer x])) (hw : ∀ k,v'.ownBlock = some k → iv.ownBlock = some k ∨ w.heap.size ≤ k) : Vi lo vb nm mb v' (pts ++ [x]) w0 (w2.setCell ⟨vb,2,none⟩ v') := by
  have hlt := lt_of_some h.blk
  have hv : v'.ownBlock ≠ some vb := fun e => (hw _ e).elim h.n1 (fun h' => by omega)
  refine ⟨?_,h.low,?_,?_,hv⟩
  · have hlo := h.low
    have hb : Below lo w w2 := ⟨hg.os,hg.tape,hg.output,hg.size,fun k hk => hg.block k (by omega) (fun e => by have := (owns_block h.imp k e.symm).1; omega)⟩
    exact (h.bel.trans hb).setCell (p := ⟨vb,2,none⟩) h.low _
  · rw [block_setCell ((hg.block _ hlt (fun e => h.n1 e.symm)).trans h.blk)]; rfl
  · rw [List.length_append,List.length_singleton]
    have e : ptrCells (pts ++ [x]) = ptrCells pts ++ [.pointer x] := by simp [ptrCells]
    rw [e]
    exact owns_set_other ho hv _ _
theorem view_any {lo : Nat} {w : World} {fb : Nat} {L : List Md} {tr : Nm → Option (Nat × Mod)} (h : FormsI lo w fb L tr) (hs : ∀ m ∈ L,m.name.length ≤ 8 ∧ m.now.length ≤ 600) (n : Nm) (hn : n.length ≤ 8) (mb : Nat) (md : Mod) (ht : tr n = some (mb,md)) :
    Calls Tryz.prog 75 #[.map (some fb),.string ⟨n.toArray⟩] w fun e w' => ∃ iv,e = .returned (.pointer (some ⟨w.heap.size,0,none⟩)) ∧ Below w.heap.size w w' ∧ Vw w.heap.size ⟨w.heap.size,n,mb,iv,md.imports.map fun i => mptr (tr i.name)⟩ [] (.slice none 0 0) w' := by
  have hml : n.length ≤ maxLen := by unfold maxLen; omega
  have hlk := h.look n hml
  rw [ht] at hlk
  have hmay := h.may hs n
  rw [ht] at hmay
  obtain ⟨hM,_,_⟩ := hmay _ rfl
  have hok := formE_ok hs (n := n) (md := md) (by rw [← h.is,ht]; rfl)
  obtain ⟨io,ic,a0,himp⟩ := hM.imps
  have hmb := hM.lt
  have HI := hide himp
  have HA0 := hide a0
  have hil : md.imports.length ≤ 200 := by have := hok.il; omega
  have HIn := hide hok.im
  have HF := hide h
  have hf0 := fieldf0
  obtain ⟨i0,hi,hz0,hz1,hz2⟩ := info_parts info_modp
  have HVi := hide (show Vi w.heap.size w.heap.size n mb (.slice none 0 0) [] w (w.alloc (.cells #[.string ⟨n.toArray⟩,.pointer (some ⟨mb,0,none⟩),.slice none 0 0,.slice none 0 0] 214)) from
    ⟨(Below.refl _ _).alloc (Nat.le_refl _) _,Nat.le_refl _,block_new _ _,World.ownsRow_nil _ _ _ _,by simp [Value.ownBlock]⟩)
  unfold mptr at hlk
  simp only [Option.map_some] at hlk
  clear h hmay hM himp hok
  go_enter Tryz.func75,Tryz.ntmps75
  go_wp2
  go_loopg [23] md.imports.length (fun g i wr => ∃ (j : Nat) (iv : Value),g + j = md.imports.length ∧ i = .int .i64 j ∧ Hid (Vi w.heap.size w.heap.size n mb iv ((md.imports.take j).map fun i => mptr (tr i.name)) w wr))
  case atStart => exact ⟨0,.slice none 0 0,by omega,rfl,by show Vi _ _ _ _ _ _ _ _; simpa using HVi.out⟩
  case round =>
    obtain ⟨j,iv,hj,rfl,HVr⟩ := hrel
    have hsz := HVr.out.bel.size
    have b0 := cell_block HVr.out.blk 0
    have b1 := cell_block HVr.out.blk 1
    have b2 := cell_block HVr.out.blk 2
    have bf := free_block HVr.out.blk
    have bl := lt_of_some HVr.out.blk
    simp at b0 b1 b2
    by_cases hlt : j < md.imports.length
    · have hlt' : (j : Int) < (md.imports.length : Int) := by omega
      obtain ⟨ib,rfl,hib,hic,hcell⟩ := HI.out (by omega)
      obtain ⟨e0,e1⟩ := hcell j hlt
      have f0 := (below_cell HVr.out.bel hib (j * 2)).trans e0
      have f1 := (below_cell HVr.out.bel hib (j * 2 + 1)).trans e1
      have hibr : ib < wr.heap.size := by omega
      obtain ⟨qo,qc,hiv⟩ := owns_shape' HVr.out.imp
      have hpl : ((md.imports.take j).map fun i => mptr (tr i.name)).length = j := by rw [List.length_map,List.length_take]; omega
      rw [hpl] at hiv
      have HIm := hide HVr.out.imp
      rw [hpl] at HIm
      subst hiv
      have HTk := hide (show (md.imports.take (j + 1)).map (fun i => mptr (tr i.name)) = (md.imports.take j).map (fun i => mptr (tr i.name)) ++ [mptr (tr md.imports[j].name)] by rw [List.take_succ_eq_append_getElem hlt,List.map_append]; rfl)
      have hnl : md.imports[j].name.length ≤ maxLen := by have := HIn.out _ (List.getElem_mem hlt); unfold maxLen; omega
      have HPl := hide hpl
      have q1 : j + 1 ≤ maxLen := by unfold maxLen; omega
      have q2 : (j + 1) * 8 ≤ 140737488355328 := by omega
      generalize md.imports[j] = im at *
      obtain ⟨X,hX⟩ : ∃ X,wr.alloc (.cells #[.string ⟨im.name.toArray⟩,.int .i64 im.place] 220) = X := ⟨_,rfl⟩
      have hbX : Below wr.heap.size wr X := by rw [← hX]; exact (Below.refl _ _).alloc (Nat.le_refl _) _
      have hlk2 := ((HF.out.below HVr.out.bel).below hbX.drew).look im.name hnl
      have HVx := hide (HVr.out.below hbX hsz)
      have x0 : X.cell? ⟨wr.heap.size,0,none⟩ = some (.string ⟨im.name.toArray⟩) := by rw [← hX]; simp
      have xl : wr.heap.size < X.heap.size := by rw [← hX]; simp
      have y2 := (below_cell hbX bl 2).trans b2
      have yf : ∀ o,X.frozen? ⟨w.heap.size,o,none⟩ = false := fun o => (World.frozen?_of_block (a := ⟨w.heap.size,o,none⟩) (hbX.block _ bl)).trans (bf o)
      have yl : w.heap.size < X.heap.size := by omega
      have HX := hide hX
      clear hcell hpl hX hbX
      go_wp2_with fail
      rw [HX.out]
      go_region_law (refine step_app_where rfl (.tmp 31) (.tmp 37) 212 rfl w.heap.size 105 i0 (.pointer none) 1 8 Tryz.underlying212 hi hz0 hz1 hz2 rfl (by decide) (.slice qo j qc) j (ptrCells ((md.imports.take j).map fun i => mptr (tr i.name))) ?_ ?_ ⟨X.heap.size,0,none⟩ 1 1 [.pointer (mptr (tr im.name))] ?_ rfl ?_ ?_ q1 q2 ?_ ?_; (simp [Act.eval,Act.put]); (exact (World.ownsRow.drew (World.ownsRow.alloc (by have := HVx.out.imp; rw [HPl.out] at this; exact this) _))); (simp [Act.eval,Act.put]); (exact (fun j u hj => newp_cells X _ _ j u hj)); (intro u hu; simp at hu; subst hu; rfl); (simp; omega); intro v' w4 hown hgrow hwhere; obtain ⟨vo,vc,rfl⟩ := owns_shape' hown; have HG := hide (grown_alloc (grown_drew1 hgrow)); have HO4 := hide hown; have HWh := hide hwhere; have hmk := (HG.out.block w.heap.size yl (fun e => HVr.out.n1 e.symm)).trans HVx.out.blk; have k9 := cell_block hmk 2; have kf := free_block hmk; have kl := lt_of_some hmk; simp at k9; clear hown hgrow hwhere hmk)
      all_goals
        (try go_wp2_with fail)
        have HPut := hide (HVx.out.put HG.out _ (mptr (tr im.name)) (by rw [HPl.out]; exact HO4.out) (fun k e => by have := HWh.out k e; rcases this with q | q; exact Or.inl q; exact Or.inr (by simp at q; omega)))
        go_wp2
        go_roundg (gk - 1)
        case measure => omega
        case rel => exact ⟨j + 1,_,by omega,by first | rfl | go_num,by show Vi _ _ _ _ _ _ _ _; rw [HTk.out]; exact HPut.out⟩
    · have hje : j = md.imports.length := by omega
      have hlt' : ¬ (j : Int) < (md.imports.length : Int) := by omega
      have HV2 := hide (show Vi w.heap.size w.heap.size n mb iv (md.imports.map fun i => mptr (tr i.name)) w wr by have := HVr.out; rw [List.take_of_length_le (by omega)] at this; exact this)
      go_wp2
      go_ret
      exact ⟨rfl,HV2.out.bel,iv,⟨Nat.le_refl _,HV2.out.blk,HV2.out.imp,World.ownsRow_nil _ _ _ _,HV2.out.n1,by simp [Value.ownBlock],fun k _ => by simp [Value.ownBlock]⟩⟩
end Go.Proofs.YtpmmjkiclngpmaaGreatDoor
namespace Go.Proofs.YtpmmjkiclngpmaaGreatDoor
open Go.RowKit Go.Maps
theorem make_form (w : World) : (Instr.makeMap 99 none).run Tryz.prog w = .ok (.map (some w.heap.size)) (w.alloc (.map #[] 0)) := by
  simp [Instr.makeMap,go_sem]
theorem below_grown {w w' : World} (h : Below w.heap.size w w') (r : Option Nat) : w.grownBy w' r := ⟨h.os,h.tape,h.output,h.size,fun k hk _ => h.block k hk⟩
structure FormsP (w : World) (fb : Nat) (L : List Md) (ns : List Nm) (tr : Nm → Option (Nat × Mod)) : Prop where
  map : MapF Tryz.prog w 9 fb ns (fun n => .agg #[.pointer (mptr (tr n)),.int .i64 (placeE L n)])
  is : ∀ n,(tr n).map Prod.snd = if n ∈ ns then formE L n else none
  at' : ∀ n y,tr n = some y → fb + 1 < y.1 ∧ ModIs (fb + 2) w y.1 y.2
theorem FormsP.keep {w w' : World} {fb : Nat} {L : List Md} {ns : List Nm} {tr : Nm → Option (Nat × Mod)} (h : FormsP w fb L ns tr) (hk : ∀ k,k < w.heap.size → (k = fb ∨ fb + 2 ≤ k) → w'.heap[k]? = w.heap[k]?) : FormsP w' fb L ns tr where
  map := h.map.keep (hk _ h.map.lt (Or.inl rfl))
  is := h.is
  at' n y hy := ⟨(h.at' n y hy).1,(h.at' n y hy).2.keep fun k hk' ho => hk k hk' (Or.inr (by have := (h.at' n y hy).1; omega))⟩
theorem keyOf_string_inv {key : Value} {kl : Lit} (h : keyOf Tryz.prog 9 key = some kl) : ∃ x : ByteArray,key = .string x ∧ kl = .string x.data.toList := by
  have hk := Tryz.underlying9
  cases key <;> simp [keyOf,hk,mapKey] at h
  exact ⟨_,rfl,h.2.symm⟩
theorem FormsP.put {w w' : World} {fb : Nat} {L : List Md} {ns : List Nm} {tr : Nm → Option (Nat × Mod)} (h : FormsP w fb L ns tr) (n : Nm) (x : Option (Nat × Mod)) (pl : Nat) (hx : x.map Prod.snd = formE L n) (hp : placeE L n = pl) (hat : ∀ y,x = some y → fb + 1 < y.1 ∧ ModIs (fb + 2) w y.1 y.2)
    (hm : MapF Tryz.prog w' 9 fb (putB n ns) (updF (fun n => .agg #[.pointer (mptr (tr n)),.int .i64 (placeE L n)]) n (.agg #[.pointer (mptr x),.int .i64 pl]))) (hg : w.grownBy w' (some fb)) :
    FormsP w' fb L (putB n ns) (fun z => if z = n then x else tr z) where
  map := hm.congr fun z hz => by
    unfold updF
    by_cases e : z = n
    · rw [if_pos e,if_pos e,e,hp]
    · rw [if_neg e,if_neg e]
  is z := by
    by_cases e : z = n
    · rw [if_pos e,if_pos (mem_putB.2 (Or.inl e)),e]; exact hx
    · rw [if_neg e,h.is z]
      by_cases hz : z ∈ ns
      · rw [if_pos hz,if_pos (mem_putB.2 (Or.inr hz))]
      · rw [if_neg hz,if_neg (fun hq => (mem_putB.1 hq).elim e hz)]
  at' z y hy := by
    have key : ∀ mb md,fb + 1 < mb → ModIs (fb + 2) w mb md → ModIs (fb + 2) w' mb md := fun mb md hne hm =>
      hm.keep fun k hk ho => hg.block k hk (fun e => by simp only [Option.some.injEq] at e; omega)
    by_cases e : z = n
    · rw [if_pos e] at hy
      exact ⟨(hat y hy).1,key _ _ (hat y hy).1 (hat y hy).2⟩
    · rw [if_neg e] at hy
      exact ⟨(h.at' z y hy).1,key _ _ (h.at' z y hy).1 (h.at' z y hy).2⟩
theorem rising_len {l r : List Nm} (hl : Rising l) (h : ∀ x ∈ l,x ∈ r) : l.length ≤ r.length := by
  have hn : l.Nodup := hl.ne
  exact List.Nodup.length_le_of_subset hn h
theorem sparse_any {w : World} {p : SP} {s : Sto} (h : StAt w p s) :
    Calls Tryz.prog 42 #[.pointer (some ⟨p.sb,0,none⟩)] w fun e w' => ∃ fb tr,e = .returned (.map (some fb)) ∧ Below w.heap.size w w' ∧ FormsI w.heap.size w' fb s.L tr := by
  obtain ⟨c0,_,_,hl⟩ := h.field
  have hmk := make_form
  have hmlt := h.mods.lt
  have hnl : (names s.L).length ≤ 8 := by simpa using h.few.1
  have HS := hide h
  have HM := hide (show World.ownsMap (w.alloc (.map #[] 0)) Tryz.prog 9 rawE p.mb (names s.L).length (keysD (names s.L) (txtV s.L)) from h.mods.below ((Below.refl _ _).alloc (Nat.le_refl _) _))
  clear h
  go_enter Tryz.func42,Tryz.ntmps42
  go_wp2_with (at_range; refine wpList_range_own _ rfl _ 79 rfl 9 129 strK und_kept _ p.mb (names s.L).length _ rfl HM.out ?_)
  intro w1 hrg hg1 hs1
  try simp at hrg hs1
  have HRg := hide hrg
  have HB1 := hide (show Below w.heap.size w w1 from ⟨hg1.os,hg1.tape,hg1.output,by omega,fun k hk => (hg1.block k (by simp; omega) (by simp)).trans (Below.heap_alloc _ _ _ hk)⟩)
  have HFp := hide (show FormsP w1 w.heap.size s.L [] (fun _ => none) from ⟨((MapF.new Tryz.prog w 9 _).keep (hg1.block _ (by simp) (by simp))),fun n => by simp,fun n y hy => by cases hy⟩)
  have hlen : s.L.length = (names s.L).length := by simp
  rw [hlen] at HRg
  clear hrg hg1
  try go_frame
  go_wp2
  go_loopw [14] (fun _ wr => ∃ (left : Lit → Bool) (cnt : Nat) (ns : List Nm) (tr : Nm → Option (Nat × Mod)),Hid (wr.ranges Tryz.prog 9 rawE p.mb (w.heap.size + 1) (names s.L).length (keysD (names s.L) (txtV s.L)) left cnt) ∧ Hid (FormsP wr w.heap.size s.L ns tr) ∧ Hid (∀ x,x ∈ ns ↔ (x ∈ names s.L ∧ left (.string x) = false)) ∧ Hid (Below w.heap.size w wr) ∧ w.heap.size + 1 < wr.heap.size) (fun _ wr => wr.rangeLeft p.mb (w.heap.size + 1))
  case atStart =>
    refine ⟨_,_,[],_,HRg.out,HFp.out,?_,HB1.out,by omega⟩
    show ∀ x,_
    intro x
    rw [keysD_has]
    simp
  case round =>
    obtain ⟨left,cnt,ns,tr,HRr,HFr,HNs,HBr,hszr⟩ := hrel
    go_wp2_with (at_next; refine wpList_next_ranges _ rfl _ rfl 9 strK rawE Value.string id (fun key kl hkey => by obtain ⟨x,rfl,_⟩ := keyOf_string_inv hkey; exact ⟨x,rfl⟩) (fun v y _ => ⟨v,rfl⟩) p.mb (w.heap.size + 1) (names s.L).length _ left cnt rfl HRr.out ?_ ?_)
    · intro h0 hall
      have HNe := hide (show ns = names s.L from Rising.ext (HFr.out.map.rising strK) HS.out.rising fun x => by rw [HNs.out x,hall]; simp)
      have HFi := hide (show FormsI w.heap.size wr w.heap.size s.L tr from by
        have hf := HFr.out
        rw [HNe.out] at hf
        exact ⟨Nat.le_refl _,hf.map,fun n => by
          rw [hf.is n]
          by_cases hn : n ∈ names s.L
          · rw [if_pos hn]
          · rw [if_neg hn,(formE_none hn).1],fun n y hy => ⟨by have := (hf.at' n y hy).1; omega,(hf.at' n y hy).2.low (by omega)⟩⟩)
      clear h0 hall
      go_wp2
      go_ret
      exact ⟨w.heap.size,tr,rfl,HBr.out,HFi.out⟩
    · intro x c kl y w2 cnt2 hkey hlk hv hat hrg2 hlt hg2 hs2 hen
      obtain ⟨x',hx',rfl⟩ := keyOf_string_inv hkey
      cases hx'
      obtain ⟨⟨n⟩⟩ := x
      have hyc := rawE_inv hv
      have hin : n ∈ names s.L := by
        rcases Classical.em (n ∈ names s.L) with h | h
        · exact h
        · have h1 := hat (.held (.bool true))
          have h2 := hat (.held (.bool false))
          rw [keysD_at,if_neg h] at h1 h2
          rw [← h2] at h1
          simp at h1
      have hc : c = .agg #[.string ⟨(nowOf s.L n).toArray⟩] := by
        have h1 := hat (.held (.bool true))
        rw [keysD_at,if_pos hin,hyc] at h1
        simp only [DataW.held.injEq] at h1
        exact h1.symm
      subst hc
      obtain ⟨m,hm,hmn⟩ := List.mem_map.1 hin
      have hgm := getM_of HS.out.rising hm
      rw [hmn] at hgm
      have hnow : nowOf s.L n = m.now := by unfold nowOf; rw [hgm]; rfl
      have hsm := HS.out.small m hm
      rw [hnow] at hen
      have HBg := hide (show Below w.heap.size w w2 from ⟨hg2.os.trans HBr.out.os,hg2.tape.trans HBr.out.tape,hg2.output.trans HBr.out.output,by omega,fun k hk => (hg2.block k (by omega) (fun e => by simp at e; omega)).trans (HBr.out.block k hk)⟩)
      have HF2 := hide (HFr.out.keep (w' := w2) fun k hk ho => hg2.block k hk (fun e => by simp at e; omega))
      have HR2 := hide hrg2
      have HG2 := hide (show cnt2 < cnt from hlt)
      have HFm := hide (show formE s.L n = formOf m.now ∧ placeE s.L n = if (parsed m.now).2.failed then (parsed m.now).2.place else 0 by unfold formE placeE; rw [hgm]; exact ⟨rfl,rfl⟩)
      have HPa := hide (fun (wq : World) => parse_any ⟨m.now.toArray⟩ wq (by show m.now.toArray.size ≤ 100000; simp; omega))
      have HKy := hide hkey
      have HIn := hide hin
      clear hat hv hyc hrg2 hlt hg2 hkey hnow hgm
      simp only [id] at hen
      go_wp2_with fail
      refine (HPa.out _).mono ?_
      rintro e w3 ⟨hb3,hres⟩
      have hsz2 : (w2.alloc (.cells #[.string ⟨m.now.toArray⟩] 129)).heap.size = w2.heap.size + 1 := by simp
      have hb3' : Below w2.heap.size w2 w3 := ((Below.refl _ _).alloc (Nat.le_refl _) _).trans (hb3.mono (by rw [hsz2]; omega))
      have HB3 := hide (HBg.out.trans (hb3'.mono (by omega)))
      have HF3 := hide (HF2.out.keep (w' := w3) fun k hk _ => hb3'.block k hk)
      have HR3 := hide (HR2.out.kept (below_grown hb3' none) (by simp) (by simp))
      have hs3 := hb3'.size
      rw [hsz2] at hres
      clear hb3 hb3' hen hsz2
      rcases hres with ⟨hfl,rfl⟩ | ⟨hfl,mb,rfl,hmb,hmod⟩
      · have HFl := hide hfl
        clear hfl
        have HLm := hide (show ns.length < maxLen by
          have h1 : ∀ z ∈ ns,z ∈ names s.L := fun z hz => ((HNs.out z).1 hz).1
          have h2 := rising_len (HFr.out.map.rising strK) h1
          unfold maxLen; omega)
        go_wp2_with (at_mapUpdate; refine wpList_put_f _ rfl _ _ _ 99 rfl 9 107 strK und_form w.heap.size ns _ rfl HF3.out.map HLm.out (.string ⟨⟨n⟩⟩) (.agg #[.pointer none,.int .i64 (parsed m.now).2.place]) n rfl rfl HKy.out ?_)
        intro w4 hm4 hg4
        have HF4 := hide (HF3.out.put n none (parsed m.now).2.place (by rw [HFm.out.1]; unfold formOf; rw [HFl.out]; rfl) (by rw [HFm.out.2,HFl.out]; rfl) (by intro y hy; cases hy) (by exact hm4) hg4)
        have HR4 := hide (HR3.out.kept hg4 (by simp; omega) (by simp))
        have HB4 := hide (show Below w.heap.size w w4 from ⟨hg4.os.trans HB3.out.os,hg4.tape.trans HB3.out.tape,hg4.output.trans HB3.out.output,by have := hg4.size; omega,fun k hk => (hg4.block k (by omega) (fun e => by simp at e; omega)).trans (HB3.out.block k hk)⟩)
        have hs4 := hg4.size
        clear hm4 hg4
        go_wp2
        go_roundw
        case rel =>
          refine ⟨_,cnt2,putB n ns,_,HR4.out,HF4.out,?_,HB4.out,by omega⟩
          show ∀ z,_
          intro z
          rw [mem_putB,HNs.out z,sameKey_str]
          by_cases hzn : z = n
          · subst hzn
            simp [HIn.out]
          · simp [hzn]
        case measure =>
          rw [HR4.out.left_eq,HRr.out.left_eq]
          exact HG2.out
      · have HFl := hide hfl
        have HMd := hide hmod
        clear hfl hmod
        have HLm := hide (show ns.length < maxLen by
          have h1 : ∀ z ∈ ns,z ∈ names s.L := fun z hz => ((HNs.out z).1 hz).1
          have h2 := rising_len (HFr.out.map.rising strK) h1
          unfold maxLen; omega)
        go_wp2_with (at_mapUpdate; refine wpList_put_f _ rfl _ _ _ 99 rfl 9 107 strK und_form w.heap.size ns _ rfl HF3.out.map HLm.out (.string ⟨⟨n⟩⟩) (.agg #[.pointer (some ⟨mb,0,none⟩),.int .i64 0]) n rfl rfl HKy.out ?_)
        intro w4 hm4 hg4
        have HF4 := hide (HF3.out.put n (some (mb,(parsed m.now).1)) 0 (by rw [HFm.out.1]; unfold formOf; rw [HFl.out]; rfl) (by rw [HFm.out.2,HFl.out]; rfl) (by intro y hy; simp only [Option.some.injEq] at hy; subst hy; exact ⟨by show w.heap.size + 1 < mb; omega,HMd.out.low (by omega)⟩) (by exact hm4) hg4)
        have HR4 := hide (HR3.out.kept hg4 (by simp; omega) (by simp))
        have HB4 := hide (show Below w.heap.size w w4 from ⟨hg4.os.trans HB3.out.os,hg4.tape.trans HB3.out.tape,hg4.output.trans HB3.out.output,by have := hg4.size; omega,fun k hk => (hg4.block k (by omega) (fun e => by simp at e; omega)).trans (HB3.out.block k hk)⟩)
        have hs4 := hg4.size
        clear hm4 hg4
        go_wp2
        go_roundw
        case rel =>
          refine ⟨_,cnt2,putB n ns,_,HR4.out,HF4.out,?_,HB4.out,by omega⟩
          show ∀ z,_
          intro z
          rw [mem_putB,HNs.out z,sameKey_str]
          by_cases hzn : z = n
          · subst hzn
            simp [HIn.out]
          · simp [hzn]
        case measure =>
          rw [HR4.out.left_eq,HRr.out.left_eq]
          exact HG2.out
end Go.Proofs.YtpmmjkiclngpmaaGreatDoor
