/- YtpmmjkiclngpmaaGreatDoorB38 -/
import Derived.Test.YtpmmjkiclngpmaaGreatDoorB32
import Derived.Test.YtpmmjkiclngpmaaGreatDoorB34
import Derived.Test.YtpmmjkiclngpmaaGreatDoorB30
import Derived.Test.YtpmmjkiclngpmaaGreatDoorB37
import Derived.Test.YtpmmjkiclngpmaaGreatDoorB35
set_option maxRecDepth 100000
set_option linter.unusedSimpArgs false
set_option linter.unusedVariables false
set_option maxHeartbeats 12800000
namespace Go.Proofs.YtpmmjkiclngpmaaGreatDoor
open Go.RowKit
structure ObOk (o : Ob) : Prop where
  un : ∀ u ∈ o.uses,u.m.length ≤ 100000
  ul : o.uses.length ≤ 100000000000
def curr (E : Nm → Option Mod) (m : Md) : Bool := match m.obj with | none => false | some o => o.text == m.now && o.uses.all (holdsU E)
theorem nowOf_of {L : List Md} (h : Rising (names L)) {m : Md} (hm : m ∈ L) : nowOf L m.name = m.now := by unfold nowOf; rw [getM_of h hm]; rfl
theorem stCurrent_any {lo : Nat} {w : World} {p : SP} {s : Sto} (h : StAt w p s) {fb : Nat} {tr : Nm → Option (Nat × Mod)} (hf : FormsI lo w fb s.L tr) (m : Md) (hm : m ∈ s.L) (hok : ∀ o,m.obj = some o → ObOk o) :
    Calls Tryz.prog 45 #[.pointer (some ⟨p.sb,0,none⟩),.map (some fb),.string ⟨m.name.toArray⟩] w fun e w' => e = .returned (.bool (curr (formE s.L) m)) ∧ Below w.heap.size w w' := by
  obtain ⟨c0,c1,_,hl⟩ := h.field
  have hsm := h.small m hm
  have hml : m.name.length ≤ maxLen := by unfold maxLen; omega
  obtain ⟨ov,hov,hob⟩ := h.objs
  have hlk := hov.lookOk strK und_obj (Tryz.zeroValue154 w) (key_str hml)
  have hhv := mem_haves h.rising hm
  rcases hmo : m.obj with _ | o
  · have hnot : m.name ∉ haves s.L := by rw [hhv,hmo]; simp
    rw [if_neg hnot,decide_eq_false hnot] at hlk
    have HV := hide (show curr (formE s.L) m = false by simp [curr,hmo])
    rw [HV.out]
    clear h hf hov hob hhv hnot hok hmo
    go_enter Tryz.func45,Tryz.ntmps45
    go_wp2_with fail
    go_quiet (fail)
    go_wp2
    go_ret
    exact ⟨rfl,((Below.refl _ _).alloc (Nat.le_refl _) _).trans ((drewN_below _ nq).mono (by simp))⟩
  · have hin : m.name ∈ haves s.L := by rw [hhv,hmo]; rfl
    rw [if_pos hin,decide_eq_true hin] at hlk
    obtain ⟨fv,uv,hval,hfn,hur⟩ := hob m hm o hmo
    rw [hval] at hlk
    obtain ⟨xs,hfx,_⟩ := hfn
    obtain ⟨fo,fc,hfv⟩ := owns_shape' hfx.1
    obtain ⟨uo,uc,huv⟩ := owns_shape' hur.1
    rw [hfv,huv] at hlk
    have hnm : nowOf s.L m.name = m.now := nowOf_of h.rising hm
    have hin2 : m.name ∈ names s.L := List.mem_map.2 ⟨m,hm,rfl⟩
    obtain ⟨X,hX⟩ : ∃ X,w.alloc (.cells #[.string ⟨o.text.toArray⟩,.slice fo o.funs.length fc,.slice uo o.uses.length uc] 154) = X := ⟨_,rfl⟩
    have hbX : Below w.heap.size w X := by rw [← hX]; exact (Below.refl _ _).alloc (Nat.le_refl _) _
    have HBX := hide hbX
    have hlk2 : ∀ q,(Instr.lookup 79 (.map (some p.mb)) (.string ⟨m.name.toArray⟩) false).run Tryz.prog (X.drewN q) = .ok (.agg #[.string ⟨m.now.toArray⟩]) (X.drewN q) := fun q => by
      have := ((h.below hbX).below (drewN_below X q)).mods.look strK und_kept (Tryz.zeroValue129 _) (key_str hml)
      rw [if_pos hin2] at this
      unfold txtV at this
      rw [hnm] at this
      exact this
    have hk0 := fieldk0
    by_cases het : o.text = m.now
    · have HV := hide (show curr (formE s.L) m = o.uses.all (holdsU (formE s.L)) by simp [curr,hmo,het])
      rw [HV.out]
      rw [het] at hX hlk
      have hx0 : X.cell? ⟨w.heap.size,0,none⟩ = some (.string ⟨m.now.toArray⟩) := by rw [← hX]; simp
      have hx2 : X.cell? ⟨w.heap.size,2,none⟩ = some (.slice uo o.uses.length uc) := by rw [← hX]; simp
      have hxl : w.heap.size < X.heap.size := by rw [← hX]; simp
      have y0 := (below_cell hbX hl 0).trans c0
      have yl : p.sb < X.heap.size := by have := hbX.size; omega
      have hlk3 := hlk2 1
      rw [show X.drewN 1 = X.drew from rfl] at hlk3
      have hoo := hok o hmo
      have hbD : Below w.heap.size w X.drew := hbX.drew
      have HHo := hide (hold_any (hf.below hbD) h.small (.slice uo o.uses.length uc) o.uses (by rw [← huv]; exact owr_keep hur.1 (fun k _ l => hbD.block k l)) hoo.un (by have := hoo.ul; omega))
      have HX := hide hX
      clear h hf hov hob hhv hin hok hmo hval hfx hur hnm hin2 hbX hfv huv hX hlk2 hbD hoo het
      generalize o.uses.all (holdsU (formE s.L)) = R at *
      go_enter Tryz.func45,Tryz.ntmps45
      go_wp2_with fail
      rw [HX.out]
      go_region_with (go_at_call 74; go_must (refine HHo.out.mono ?_; rintro e w3 ⟨rfl,hb3⟩; have HB3 := hide ((HBX.out.drew).trans (hb3.mono (by show w.heap.size ≤ X.heap.size; omega))); clear hb3))
      all_goals
        (try go_wp2_with fail)
        go_ret
        exact ⟨rfl,HB3.out⟩
    · have HV := hide (show curr (formE s.L) m = false by simp [curr,hmo,het])
      rw [HV.out]
      have hx0 : X.cell? ⟨w.heap.size,0,none⟩ = some (.string ⟨o.text.toArray⟩) := by rw [← hX]; simp
      have hxl : w.heap.size < X.heap.size := by rw [← hX]; simp
      have y0 := (below_cell hbX hl 0).trans c0
      have yl : p.sb < X.heap.size := by have := hbX.size; omega
      have HX := hide hX
      clear h hf hov hob hhv hin hok hmo hval hfx hur hnm hin2 hbX hfv huv hX
      go_enter Tryz.func45,Tryz.ntmps45
      go_wp2_with fail
      rw [HX.out]
      go_quiet (fail)
      go_wp2
      go_ret
      exact ⟨rfl,HBX.out.trans ((drewN_below _ nq).mono HBX.out.size)⟩
end Go.Proofs.YtpmmjkiclngpmaaGreatDoor
namespace Go.Proofs.YtpmmjkiclngpmaaGreatDoor
open Go.RowKit
def imsE (E : Nm → Option Mod) (md : Mod) : List (Option Mod) := md.imports.map fun i => E i.name
def ptsE (E : Nm → Option Mod) (md : Mod) : List (Option Addr) := md.imports.map fun i => (E i.name).map fun _ => (⟨0,0,none⟩ : Addr)
def chkE (E : Nm → Option Mod) (md : Mod) : KS := modK (lookE md (imsE E md)) 700 md (ptsE E md)
def objE (nm : Nm) (E : Nm → Option Mod) (md : Mod) : List CF × List Us := compK nm (fndE nm md (imsE E md)) 700 md.funs (chkE E md).lk
def sfE (E : Nm → Option Mod) (x : Nm × Nm) : List UInt8 := seenT (E x.1) x.2
def usesE (nm : Nm) (E : Nm → Option Mod) (md : Mod) : List Us := usesOf (sfE E) ((objE nm E md).2.map keyU ++ md.imports.map fun i => (i.name,[]))
def compM (E : Nm → Option Mod) (m : Md) : (Nat × Nat) × Option Ob :=
  match formOf m.now with
  | none => ((4,(parsed m.now).2.place),none)
  | some md => (((chkE E md).code,(chkE E md).place),if (chkE E md).code = 0 then some ⟨m.now,(objE m.name E md).1,usesE m.name E md⟩ else none)
theorem MOk.trees {md : Mod} (h : MOk 601 md) : ∀ f ∈ md.funs,Shp (fun _ => True) (700 + 1) f.body ∧ Leafy (700 + 1) f.body := fun f hf => ⟨(h.fs f hf).body.shp.mono (by omega),(h.fs f hf).body.leaf _⟩
theorem useV_seen {E : Nm → Option Mod} {md : Mod} {n : Nm} {u : Us} (h : u ∈ useV md (imsE E md) n) : u.n = n ∧ u.s = sfE E (keyU u) ∧ ∃ i ∈ md.imports,u.m = i.name := by
  unfold useV at h
  split at h
  · cases h
  · have key : ∀ (l : List (Imp × Option Mod)),(∀ x ∈ l,x.2 = E x.1.name ∧ x.1 ∈ md.imports) → u ∈ useI n l → u.n = n ∧ u.s = sfE E (keyU u) ∧ ∃ i ∈ md.imports,u.m = i.name := by
      intro l
      induction l with
      | nil => intro _ hu; cases hu
      | cons x r ih =>
        intro hx hu
        unfold useI at hu
        rcases List.mem_cons.1 hu with rfl | hu
        · have := hx x (by simp)
          exact ⟨rfl,by show seenT x.2 n = seenT (E x.1.name) n; rw [this.1],x.1,this.2,rfl⟩
        · split at hu
          · cases hu
          · exact ih (fun y hy => hx y (by simp [hy])) hu
    refine key _ (fun x hx => ?_) h
    obtain ⟨j,hj,rfl⟩ := List.getElem_of_mem hx
    rw [List.getElem_zip]
    refine ⟨?_,List.getElem_mem _⟩
    simp [imsE]
theorem lk_seen {nm : Nm} {E : Nm → Option Mod} {md : Mod} (hok : MOk 601 md) {u : Us} (h : u ∈ (objE nm E md).2) : (∃ n,CallsM 700 md.funs n ∧ u ∈ useV md (imsE E md) n) := by
  unfold objE at h
  rw [compK_mem hok.trees] at h
  rcases h with h | ⟨n,hn,hu⟩
  · unfold chkE at h
    rw [modK_mem hok.trees] at h
    obtain ⟨n,hn,hu⟩ := h
    exact ⟨n,hn,List.mem_of_mem_take hu⟩
  · exact ⟨n,hn,List.mem_of_mem_take hu⟩
def objM (n : Nm) (x : Option Ob) (L : List Md) : List Md := L.map fun m => if m.name = n then { m with obj := x } else m
theorem names_objM (n : Nm) (x : Option Ob) (L : List Md) : names (objM n x L) = names L := by
  unfold objM names
  rw [List.map_map]
  refine List.map_congr_left fun m _ => ?_
  show (if m.name = n then ({ m with obj := x } : Md) else m).name = m.name
  split <;> rfl
theorem objM_mem {n : Nm} {x : Option Ob} {L : List Md} {m : Md} (h : m ∈ objM n x L) : ∃ m0 ∈ L,m0.name = m.name ∧ m0.now = m.now ∧ ((m.name = n ∧ m.obj = x) ∨ (m.name ≠ n ∧ m = m0)) := by
  unfold objM at h
  obtain ⟨m0,h0,rfl⟩ := List.mem_map.1 h
  by_cases e : m0.name = n
  · rw [if_pos e]; exact ⟨m0,h0,rfl,rfl,Or.inl ⟨e,rfl⟩⟩
  · rw [if_neg e]; exact ⟨m0,h0,rfl,rfl,Or.inr ⟨e,rfl⟩⟩
theorem getM_objM {n z : Nm} {x : Option Ob} {L : List Md} : (getM (objM n x L) z).map (fun m => m.now) = (getM L z).map fun m => m.now := by
  unfold getM objM
  induction L with
  | nil => rfl
  | cons y r ih =>
    rw [List.map_cons,List.find?_cons,List.find?_cons]
    have e1 : (if y.name = n then ({ y with obj := x } : Md) else y).name = y.name := by split <;> rfl
    have e2 : (if y.name = n then ({ y with obj := x } : Md) else y).now = y.now := by split <;> rfl
    rw [e1]
    rcases (y.name == z) with _ | _
    · exact ih
    · simp only [Option.map_some,e2]
theorem nowOf_objM (n : Nm) (x : Option Ob) (L : List Md) (z : Nm) : nowOf (objM n x L) z = nowOf L z := by
  unfold nowOf
  rw [getM_objM]
theorem haves_rising {L : List Md} (h : Rising (names L)) : Rising (haves L) := by
  unfold haves
  refine List.Pairwise.sublist ?_ h
  exact List.Sublist.map _ List.filter_sublist
theorem haves_objM_none {L : List Md} (h : Rising (names L)) (n : Nm) : haves (objM n none L) = (haves L).filter fun x => !(x == n) := by
  have hr : Rising (names (objM n none L)) := by rw [names_objM]; exact h
  refine Rising.ext (haves_rising hr) (List.Pairwise.sublist List.filter_sublist (haves_rising h)) fun z => ?_
  rw [List.mem_filter]
  constructor
  · intro hz
    obtain ⟨m,hm,rfl,ho⟩ := haves_sub hz
    obtain ⟨m0,h0,e1,e2,⟨e3,e4⟩ | ⟨e3,e4⟩⟩ := objM_mem hm
    · rw [e4] at ho; cases ho
    · subst e4
      exact ⟨(mem_haves h h0).2 ho,by simpa using e3⟩
  · rintro ⟨hz,hne⟩
    obtain ⟨m,hm,rfl,ho⟩ := haves_sub hz
    have hne' : m.name ≠ n := by simpa using hne
    exact (mem_haves hr (m := m) (List.mem_map.2 ⟨m,hm,if_neg hne'⟩)).2 ho
theorem haves_objM_some {L : List Md} (h : Rising (names L)) {n : Nm} (hn : n ∈ names L) (o : Ob) : haves (objM n (some o) L) = putB n (haves L) := by
  have hr : Rising (names (objM n (some o) L)) := by rw [names_objM]; exact h
  refine Rising.ext (haves_rising hr) (haves_rising h).putB fun z => ?_
  rw [mem_putB]
  constructor
  · intro hz
    obtain ⟨m,hm,rfl,ho⟩ := haves_sub hz
    obtain ⟨m0,h0,e1,e2,⟨e3,e4⟩ | ⟨e3,e4⟩⟩ := objM_mem hm
    · exact Or.inl e3
    · subst e4
      exact Or.inr ((mem_haves h h0).2 ho)
  · rintro (rfl | hz)
    · obtain ⟨m,hm,e⟩ := List.mem_map.1 hn
      have hmm : ({ m with obj := some o } : Md) ∈ objM z (some o) L := List.mem_map.2 ⟨m,hm,if_pos e⟩
      rw [← e]
      rw [← e] at hmm hr
      exact (mem_haves hr hmm).2 rfl
    · obtain ⟨m,hm,rfl,ho⟩ := haves_sub hz
      by_cases e : m.name = n
      · have hmm : ({ m with obj := some o } : Md) ∈ objM n (some o) L := List.mem_map.2 ⟨m,hm,if_pos e⟩
        exact (mem_haves hr hmm).2 rfl
      · exact (mem_haves hr (m := m) (List.mem_map.2 ⟨m,hm,if_neg e⟩)).2 ho
theorem objM_objM (n : Nm) (x y : Option Ob) (L : List Md) : objM n y (objM n x L) = objM n y L := by
  unfold objM
  rw [List.map_map]
  refine List.map_congr_left fun m _ => ?_
  by_cases e : m.name = n
  · simp [Function.comp,e]
  · simp [Function.comp,e]
end Go.Proofs.YtpmmjkiclngpmaaGreatDoor
namespace Go.Proofs.YtpmmjkiclngpmaaGreatDoor
open Go.RowKit
def compS (s : Sto) (m : Md) : Sto := ⟨objM m.name (compM (formE s.L) m).2 s.L,putB m.name s.comp,s.img⟩
theorem StAt.comp1 {w w' : World} {p : SP} {s : Sto} (h : StAt w p s) {ns : List Nm} (hf : ns.length ≤ 8) (hm : MapF Tryz.prog w' 9 p.cb ns (fun _ => .agg #[])) (hg : w.grownBy w' (some p.cb)) :
    ButS p.own w w' ∧ StAt w' p { s with comp := ns } := by
  have hsb := h.sbmap
  have hbl : ∀ k,k < w.heap.size → k ≠ p.cb → w'.heap[k]? = w.heap[k]? := fun k hk hne => hg.block k hk (fun e => hne (by simpa using e))
  have hkeep : ∀ k,¬ p.out k → k < w.heap.size → ¬ p.out k ∧ w'.heap[k]? = w.heap[k]? := fun k h1 h2 => ⟨h1,hbl k h2 (fun e => h1 (Or.inl (Or.inr (Or.inr (Or.inr e)))))⟩
  refine ⟨ButS.of_grown hg (fun k e => Or.inl (Or.inr (Or.inr (Or.inr (by simpa using e.symm))))),?_,?_,?_,hm,h.n1,h.n2,h.n3,⟨h.few.1,hf⟩,h.small⟩
  · obtain ⟨ip,a,b⟩ := h.blk
    exact ⟨ip,(hbl _ (lt_of_some a) hsb.2.2).trans a,b.keep hkeep⟩
  · exact h.mods.keep (hbl _ h.mods.lt h.n2)
  · obtain ⟨ov,a,b⟩ := h.objs
    exact ⟨ov,a.keep (hbl _ a.lt h.n3),fun m hm o ho => (b m hm o ho).keep hkeep⟩
theorem StAt.objx {w w' : World} {p : SP} {s : Sto} (h : StAt w p s) (n : Nm) (x : Option Ob) {ov' : Nm → Value} (hm : MapF Tryz.prog w' 9 p.ob (haves (objM n x s.L)) ov') (hg : w.grownBy w' (some p.ob))
    (hob : ∀ m ∈ s.L,m.name ≠ n → ∀ o,m.obj = some o → ObAt (fun k => ¬ p.out k) w (ov' m.name) o) (hx : ∀ o,x = some o → ObAt (fun k => ¬ p.out k) w (ov' n) o) :
    ButS p.own w w' ∧ StAt w' p { s with L := objM n x s.L } := by
  have hsb := h.sbmap
  have hbl : ∀ k,k < w.heap.size → k ≠ p.ob → w'.heap[k]? = w.heap[k]? := fun k hk hne => hg.block k hk (fun e => hne (by simpa using e))
  have hkeep : ∀ k,¬ p.out k → k < w.heap.size → ¬ p.out k ∧ w'.heap[k]? = w.heap[k]? := fun k h1 h2 => ⟨h1,hbl k h2 (fun e => h1 (Or.inl (Or.inr (Or.inr (Or.inl e)))))⟩
  refine ⟨ButS.of_grown hg (fun k e => Or.inl (Or.inr (Or.inr (Or.inl (by simpa using e.symm))))),?_,?_,⟨ov',hm,?_⟩,?_,h.n1,h.n2,h.n3,⟨?_,h.few.2⟩,?_⟩
  · obtain ⟨ip,a,b⟩ := h.blk
    exact ⟨ip,(hbl _ (lt_of_some a) hsb.2.1).trans a,b.keep hkeep⟩
  · show MapF _ _ _ _ (names (objM n x s.L)) (txtV (objM n x s.L))
    rw [names_objM]
    exact (h.mods.keep (hbl _ h.mods.lt h.n1)).congr fun z _ => by unfold txtV; rw [nowOf_objM]
  · intro m hm o ho
    obtain ⟨m0,h0,e1,e2,⟨e3,e4⟩ | ⟨e3,e4⟩⟩ := objM_mem hm
    · rw [e3]; exact (hx o (by rw [← e4]; exact ho)).keep hkeep
    · subst e4; exact (hob m h0 e3 o ho).keep hkeep
  · exact h.comp.keep (hbl _ h.comp.lt h.n3.symm)
  · show (objM n x s.L).length ≤ 8
    unfold objM; rw [List.length_map]; exact h.few.1
  · intro m hm
    obtain ⟨m0,h0,e1,e2,_⟩ := objM_mem hm
    have := h.small m0 h0
    rw [e1,e2] at this
    exact this
theorem FormsI.buts {lo : Nat} {w w' : World} {p : SP} {fb : Nat} {L : List Md} {tr : Nm → Option (Nat × Mod)} (h : FormsI lo w fb L tr) (hlo : ∀ k,p.own k → k < lo) (hb : ButS p.own w w') : FormsI lo w' fb L tr := h.keep fun k hk hl => hb.block k hk (fun ho => by have := hlo k ho; omega)
theorem FormsI.trees {lo : Nat} {w w' : World} {fb : Nat} {L : List Md} {tr : Nm → Option (Nat × Mod)} (h : FormsI lo w fb L tr) (hs : ∀ m ∈ L,m.name.length ≤ 8 ∧ m.now.length ≤ 600) {n : Nm} {mb : Nat} {md : Mod} (ht : tr n = some (mb,md)) (iv : Value) (hb : Below w.heap.size w w') (b : Nat) :
    Trees 700 (fun k => k < w.heap.size) w.heap.size w' ⟨b,n,mb,iv,md.imports.map fun i => mptr (tr i.name)⟩ md (md.imports.map fun i => tr i.name) := by
  have hok := formE_ok hs (n := n) (md := md) (by rw [← h.is,ht]; rfl)
  refine Trees.below (w := w) ⟨?_,?_,?_,?_,?_,?_,fun k hk => hk⟩ hb
  · show (md.imports.map fun i => mptr (tr i.name)) = _
    rw [List.map_map]; rfl
  · rw [List.length_map]
  · rw [List.length_map]; have := hok.il; omega
  · exact (h.may hs n _ ht).1
  · exact ⟨by have := hok.fl; omega,fun f hf => by have := (hok.fs f hf).pl; omega⟩
  · intro x hx
    obtain ⟨i,_,rfl⟩ := List.mem_map.1 hx
    exact h.may hs i.name
theorem ims_eq {lo : Nat} {w : World} {fb : Nat} {L : List Md} {tr : Nm → Option (Nat × Mod)} (h : FormsI lo w fb L tr) (md : Mod) : ((md.imports.map fun i => tr i.name).map fun x => x.map Prod.snd) = imsE (formE L) md := by
  unfold imsE
  rw [List.map_map]
  exact List.map_congr_left fun i _ => h.is i.name
theorem chk_eq {lo : Nat} {w : World} {fb : Nat} {L : List Md} {tr : Nm → Option (Nat × Mod)} (h : FormsI lo w fb L tr) (md : Mod) : modK (lookE md (imsE (formE L) md)) 700 md (md.imports.map fun i => mptr (tr i.name)) = chkE (formE L) md := by
  unfold chkE
  refine modK_congr (fun n _ => ⟨rfl,rfl⟩) ?_
  unfold ptsE
  rw [List.map_map,List.map_map]
  refine List.map_congr_left fun i _ => ?_
  show (mptr (tr i.name)).isSome = ((formE L i.name).map fun _ => _).isSome
  rw [← h.is i.name]
  unfold mptr
  cases tr i.name <;> rfl
theorem chk_known {E : Nm → Option Mod} {md : Mod} (hok : MOk 601 md) (h0 : (chkE E md).code = 0) : ∀ f ∈ md.funs,Shp (knownV md (imsE E md)) (700 + 1) f.body := (modK_ok hok.trees (by simp [ptsE]) h0).1
theorem seen_all {nm : Nm} {E : Nm → Option Mod} {md : Mod} (hok : MOk 601 md) : ∀ u ∈ (objE nm E md).2,u.s = sfE E (keyU u) := fun u hu => by
  obtain ⟨n,_,h⟩ := lk_seen hok hu
  exact (useV_seen h).2.1
theorem chk_len {E : Nm → Option Mod} {md : Mod} (hok : MOk 601 md) : (chkE E md).lk.length + 1000 * szF 700 md.funs ≤ 8000000000 := by
  have h1 : (chkE E md).lk.length ≤ 1000 * szF 700 md.funs := by
    unfold chkE modK
    have key : ∀ (l : List Fun) (s : KS),(funsK (lookE md (imsE E md)) 700 l s).lk.length ≤ s.lk.length + 1000 * szF 700 l := by
      intro l
      induction l with
      | nil => intro s; simp [funsK,szF]
      | cons f r ih =>
        intro s
        have a := ih (funK (lookE md (imsE E md)) 700 f s)
        have b := funK_lk (lookE md (imsE E md)) 700 f s
        show (funsK _ 700 r (funK _ 700 f s)).lk.length ≤ _
        have e : szF 700 (f :: r) = sz (700 + 1) f.body + szF 700 r := by unfold szF; rw [List.map_cons,List.sum_cons]
        rw [e]; omega
    have := key md.funs (oncesK (md.funs.map fun f => (f.name,f.place)) [] (impsK (md.imports.zip (ptsE E md)) [] ⟨[],0,0,[]⟩))
    rw [oncesK_lk,impsK_lk] at this
    simpa using this
  have := hok.ok.all
  omega
theorem obj_len {nm : Nm} {E : Nm → Option Mod} {md : Mod} (hok : MOk 601 md) : (objE nm E md).2.length ≤ 8000000000 := by
  have key : ∀ (l : List Fun) (lk : List Us),(compK nm (fndE nm md (imsE E md)) 700 l lk).2.length ≤ lk.length + 1000 * szF 700 l := by
    intro l
    induction l with
    | nil => intro s; simp [compK,szF]
    | cons f r ih =>
      intro lk
      have a := ih (codeOf (fndE nm md (imsE E md)) 700 f lk).lk
      have b := codeOf_lk (fndE nm md (imsE E md)) 700 f lk
      have e : szF 700 (f :: r) = sz (700 + 1) f.body + szF 700 r := by unfold szF; rw [List.map_cons,List.sum_cons]
      rw [e]
      show (compK nm _ 700 r _).2.length ≤ _
      omega
  have a := key md.funs (chkE E md).lk
  have b := chk_len (E := E) hok
  unfold objE
  omega
end Go.Proofs.YtpmmjkiclngpmaaGreatDoor
