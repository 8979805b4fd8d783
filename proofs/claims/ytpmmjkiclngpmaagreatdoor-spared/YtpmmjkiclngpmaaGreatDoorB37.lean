/- YtpmmjkiclngpmaaGreatDoorB37 -/
import Derived.Test.YtpmmjkiclngpmaaGreatDoorB36
import Derived.Test.YtpmmjkiclngpmaaGreatDoorB13
import Derived.Test.YtpmmjkiclngpmaaGreatDoorB28
set_option maxRecDepth 100000
set_option linter.unusedSimpArgs false
set_option linter.unusedVariables false
set_option maxHeartbeats 12800000
namespace Go.Proofs.YtpmmjkiclngpmaaGreatDoor
open Go.RowKit Go.Lib
theorem info_use2 : (Tryz.prog.info? 185).map (fun i => (i.zero,i.size,i.bytes)) = some (some (.agg #[.string ⟨#[]⟩,.string ⟨#[]⟩,.string ⟨#[]⟩]),3,48) := by kernel_rfl
theorem cloneU_any (w : World) (base n : Nat) (v : Value) (xs : List Value) (h : w.ownsRow base 185 3 v n xs) (hn : n ≤ 40000000000) (h1 : ∀ u ∈ xs,u.oneCell' = true) :
    Calls Tryz.prog 117 #[v] w fun e w' => ∃ v',e = .returned v' ∧ w'.ownsRow w.heap.size 185 3 v' n xs ∧ Below w.heap.size w w' := by
  obtain ⟨i0,hi,hz0,hz1,hz2⟩ := info_parts info_use2
  rcases h.2 with ⟨rfl,rfl⟩ | ⟨g,cap,cur,rfl,hb0,hblk,hnc,hcm,hcs,htk⟩
  · refine (AnyE.slices_Clone_nil Tryz.cloneU 0 0 w).mono ?_
    rintro e w' ⟨rfl,rfl⟩
    have hx : xs = [] := List.eq_nil_of_length_eq_zero (by simpa using h.1)
    subst hx
    exact ⟨_,rfl,World.ownsRow_nil _ _ _ _,Below.refl _ _⟩
  · refine (AnyE.slices_Clone Tryz.cloneU i0 (.agg #[.string ⟨#[]⟩,.string ⟨#[]⟩,.string ⟨#[]⟩]) 3 48 hi hz0 hz1 hz2 rfl (by omega) Tryz.sizeOf185 g 0 n cap xs w h.1 (by unfold maxLen; omega) (by omega) (fun j u hj => ?_) h1).mono ?_
    · have hj' : j < n * 3 := by rw [← h.1]; exact (List.getElem?_eq_some_iff.1 hj).1
      rw [Nat.zero_add,owns_cell h j hj']
      exact hj
    · rintro e w' ⟨v',rfl,a,_,b⟩
      exact ⟨v',rfl,a,b⟩
theorem cmpB_neg (a b : Nm) : cmpB a b < 0 ↔ bytesBefore a b = true := by
  unfold cmpB
  split
  · next h => simp [h]
  · next h =>
    split
    · simp [h]
    · simp [h]
theorem cmpB_zero (a b : Nm) : cmpB a b = 0 ↔ a = b := by
  constructor
  · intro h
    rcases Classical.em (a = b) with e | e
    · exact e
    · unfold cmpB at h
      rcases WideAt.bytes_total a b e with q | q
      · rw [if_pos q] at h; omega
      · split at h
        · omega
        · first
          | (rw [if_pos q] at h; omega)
          | omega
  · rintro rfl
    simp [cmpB,WideAt.bytes_irrefl]
def ltU (x y : Nm × Nm) : Bool := bytesBefore x.1 y.1 || (x.1 == y.1 && bytesBefore x.2 y.2)
theorem ltU_iff (x y : Nm × Nm) : ltU x y = true ↔ (bytesBefore x.1 y.1 = true ∨ (x.1 = y.1 ∧ bytesBefore x.2 y.2 = true)) := by simp [ltU]
theorem ltOf_cmpU (x y : Nm × Nm) : ltOf cmpU x y = ltU x y := by
  rw [Bool.eq_iff_iff,ltU_iff]
  unfold ltOf cmpU orV
  rw [decide_eq_true_iff]
  split
  · next h =>
    rw [cmpB_zero] at h
    rw [cmpB_neg]
    constructor
    · exact fun q => Or.inr ⟨h,q⟩
    · rintro (q | q)
      · rw [h,WideAt.bytes_irrefl] at q; cases q
      · exact q.2
  · next h =>
    rw [cmpB_zero] at h
    rw [cmpB_neg]
    exact ⟨Or.inl,fun q => q.elim id (fun q => absurd q.1 h)⟩
theorem ltU_trans {x y z : Nm × Nm} (h1 : ltU x y = true) (h2 : ltU y z = true) : ltU x z = true := by
  rw [ltU_iff] at *
  rcases h1 with h1 | ⟨e1,h1⟩ <;> rcases h2 with h2 | ⟨e2,h2⟩
  · exact Or.inl (WideShapes.bytes_trans _ _ _ h1 h2)
  · exact Or.inl (by rw [← e2]; exact h1)
  · exact Or.inl (by rw [e1]; exact h2)
  · exact Or.inr ⟨e1.trans e2,WideShapes.bytes_trans _ _ _ h1 h2⟩
theorem ltU_total (x y : Nm × Nm) (h1 : ltU x y = false) (h2 : ltU y x = false) : x = y := by
  have n1 : ¬ ltU x y = true := by rw [h1]; simp
  have n2 : ¬ ltU y x = true := by rw [h2]; simp
  rw [ltU_iff] at n1 n2
  have e1 : x.1 = y.1 := by
    rcases Classical.em (x.1 = y.1) with e | e
    · exact e
    · exact (WideAt.bytes_total _ _ e).elim (fun q => absurd (Or.inl q) n1) (fun q => absurd (Or.inl q) n2)
  have e2 : x.2 = y.2 := by
    rcases Classical.em (x.2 = y.2) with e | e
    · exact e
    · exact (WideAt.bytes_total _ _ e).elim (fun q => absurd (Or.inr ⟨e1,q⟩) n1) (fun q => absurd (Or.inr ⟨e1.symm,q⟩) n2)
  exact Prod.ext e1 e2
theorem ltU_irrefl (x : Nm × Nm) : ltU x x = false := by simp [ltU,WideAt.bytes_irrefl]
theorem SWO_cmpU : Sort.SWO (ltOf cmpU) where
  irrefl x := by rw [ltOf_cmpU]; exact ltU_irrefl x
  trans x y z h1 h2 := by rw [ltOf_cmpU] at *; exact ltU_trans h1 h2
  ntrans x y z h1 h2 := by
    rw [ltOf_cmpU] at *
    rcases h3 : ltU x z with _ | _
    · rfl
    · rcases h4 : ltU y x with _ | _
      · have := ltU_total x y h1 h4
        subst this
        rw [h2] at h3; cases h3
      · have := ltU_trans h4 h3
        rw [h2] at this; cases this
theorem flatK_flatU (sf : Nm × Nm → List UInt8) (l : List (Nm × Nm)) : (Sort.flatK (encU sf) 3 l.toArray).toList = flatU sf l := by
  apply List.ext_getElem?
  intro t
  have hs : (Sort.flatK (encU sf) 3 l.toArray).size = l.length * 3 := by simp
  by_cases ht : t < l.length * 3
  · have q : t / 3 < l.length := by omega
    rw [Array.getElem?_toList,Array.getElem?_eq_getElem (by rw [hs]; exact ht),← getElem!_pos _ t (by rw [hs]; exact ht),Sort.get_flatK _ _ _ t (by simpa using ht)]
    have e : l.toArray[t / 3]! = l[t / 3] := by rw [getElem!_pos _ _ (by simpa using q)]; simp
    rw [e]
    have := flatU_at sf l (t / 3) q
    rcases (show t = (t / 3) * 3 ∨ t = (t / 3) * 3 + 1 ∨ t = (t / 3) * 3 + 2 by omega) with e | e | e
    · rw [show t % 3 = 0 by omega]
      have h1 := this.1
      rw [← e] at h1
      rw [h1]; rfl
    · rw [show t % 3 = 1 by omega]
      have h1 := this.2.1
      rw [← e] at h1
      rw [h1]; rfl
    · rw [show t % 3 = 2 by omega]
      have h1 := this.2.2
      rw [← e] at h1
      rw [h1]; rfl
  · rw [List.getElem?_eq_none (by rw [Array.length_toList,hs]; omega),List.getElem?_eq_none (by rw [flatU_len]; omega)]
theorem sorted_row (sf : Nm × Nm → List UInt8) (w : World) (g cap n : Nat) (l d : List (Nm × Nm)) (h : RowU sf g cap l w) (hd : d.length = l.length) (os : Array Obj) :
    RowU sf g cap d (sortWorldK (encU sf) 3 w g 0 n d.toArray os) ∧ Turned1 g w (sortWorldK (encU sf) 3 w g 0 n d.toArray os) := by
  obtain ⟨cur,a,b,c⟩ := h.blk
  have hF := flatK_flatU sf d
  have hg := lt_of_some a
  have hs : (Sort.flatK (encU sf) 3 d.toArray).size = d.length * 3 := by simp
  have hh : ∀ k,k < w.heap.size → (sortWorldK (encU sf) 3 w g 0 n d.toArray os).heap[k]? = (w.heap.modify g (Sort.onCells (Sort.putCells id 0 (Sort.flatK (encU sf) 3 d.toArray))))[k]? := fun k hk => by
    show ((w.heap.modify g _) ++ os)[k]? = _
    rw [Array.getElem?_append_left (by simpa using hk)]
  constructor
  · refine ⟨Sort.putCells id 0 (Sort.flatK (encU sf) 3 d.toArray) cur,?_,by simpa [Sort.putCells] using b,?_⟩
    · rw [hh g hg,Array.getElem?_modify,if_pos rfl,a]
      rfl
    · rw [← hF]
      have hl : l.length * 3 ≤ cur.size := by
        have q := congrArg List.length c
        rw [flatU_len,List.length_take] at q
        have q2 : cur.toList.length = cur.size := by simp
        omega
      apply List.ext_getElem?
      intro t
      rw [List.getElem?_take]
      split
      · next ht =>
        have ht2 : t < cur.size := by omega
        have ht3 : t < (Sort.flatK (encU sf) 3 d.toArray).size := by rw [hs]; exact ht
        simp only [Sort.putCells,Array.getElem?_toList,Array.getElem?_mapIdx,Array.getElem?_eq_getElem ht2,Option.map_some]
        rw [if_pos ⟨Nat.zero_le _,by omega⟩,Nat.sub_zero,getElem!_pos _ t ht3,Array.getElem?_eq_getElem ht3]
        rfl
      · next ht => rw [List.getElem?_eq_none (by rw [Array.length_toList,hs]; omega)]
  · refine ⟨rfl,rfl,rfl,?_,fun k hk hne => ?_⟩
    · show w.heap.size ≤ ((w.heap.modify g _) ++ os).size
      simp
    · rw [hh k hk,Array.getElem?_modify,if_neg (fun e => hne e.symm)]
def sortL (l : List (Nm × Nm)) : List (Nm × Nm) := l.mergeSort fun x y => !ltU y x
theorem sortU_any (sf : Nm × Nm → List UInt8) (w : World) (g cap : Nat) (l : List (Nm × Nm)) (h : RowU sf g cap l w) (hc : l.length ≤ cap) (hl : l.length ≤ 40000000000) :
    Calls Tryz.prog 119 #[.slice (some ⟨g,0,none⟩) l.length cap,.func (.func 120) #[] #[]] w fun e w' => e = .returned (.tuple #[]) ∧ RowU sf g cap (sortL l) w' ∧ Turned1 g w w' := by
  have eg : ∀ args w,(callFunc 120 args).run Tryz.prog w = .ok (.enter 120 args) w := enters_of Tryz.func120 (by kernel_rfl) rfl
  have hH : Sort.HoldsK (encU sf) 3 w g 0 l.toArray := by
    intro j hj
    have hj' : j < l.length * 3 := by simpa using hj
    obtain ⟨cur,a,b,c⟩ := h.blk
    refine ⟨?_,free_block a _⟩
    rw [Nat.zero_add,cell_block a]
    have e : cur[j]? = (flatU sf l)[j]? := by rw [← c,List.getElem?_take,if_pos hj']; simp
    rw [e,← flatK_flatU,Array.getElem?_toList,Array.getElem?_eq_getElem hj,getElem!_pos _ j hj]
    rfl
  have hcon := AnyQ.slices_SortFunc_total Tryz.sortU 3 Tryz.isAgg185 Tryz.sizeOf185 (encU sf) (fun _ => rfl) (fun x v hv => by simp [encU] at hv; rcases hv with rfl | rfl | rfl <;> rfl) cmpU SWO_cmpU 120 #[] g 0 cap l.toArray w eg (fun m os dk _ x y => order_any sf x y _) hH h.lt (by simp; omega) (fun x y h1 h2 => by rw [ltOf_cmpU] at h1 h2; exact ltU_total x y h1 h2)
  refine hcon.mono ?_
  rintro e w' ⟨rfl,n,os,rfl⟩
  have e1 : (l.toArray.toList.mergeSort fun x y => !ltOf cmpU y x) = sortL l := by
    unfold sortL
    congr 1
    funext x y
    rw [ltOf_cmpU]
  rw [e1]
  exact ⟨rfl,sorted_row sf w g cap n l (sortL l) h (by unfold sortL; exact List.length_mergeSort _) os⟩
end Go.Proofs.YtpmmjkiclngpmaaGreatDoor
namespace Go.Proofs.YtpmmjkiclngpmaaGreatDoor
open Go.RowKit
def keyU (u : Us) : Nm × Nm := (u.m,u.n)
theorem useCells_flat (sf : Nm × Nm → List UInt8) (l : List Us) (h : ∀ u ∈ l,u.s = sf (keyU u)) : useCells l = flatU sf (l.map keyU) := by
  induction l with
  | nil => rfl
  | cons x r ih =>
    have h1 := h x (by simp)
    rw [List.map_cons,show flatU sf (keyU x :: r.map keyU) = encU sf (keyU x) ++ flatU sf (r.map keyU) from rfl,← ih (fun u hu => h u (by simp [hu]))]
    show [.string ⟨x.m.toArray⟩,.string ⟨x.n.toArray⟩,.string ⟨x.s.toArray⟩] ++ useCells r = _
    rw [h1]; rfl
def entU (sf : Nm × Nm → List UInt8) (x : Nm × Nm) : Us := ⟨x.1,x.2,sf x⟩
theorem flat_useCells (sf : Nm × Nm → List UInt8) (l : List (Nm × Nm)) : flatU sf l = useCells (l.map (entU sf)) := by
  induction l with
  | nil => rfl
  | cons x r ih => rw [List.map_cons,show flatU sf (x :: r) = encU sf x ++ flatU sf r from rfl,ih]; rfl
def usesOf (sf : Nm × Nm → List UInt8) (l : List (Nm × Nm)) : List Us := (compactL (sortL l)).map (entU sf)
theorem useOne (l : List Us) : ∀ u ∈ useCells l,u.oneCell' = true := by
  intro u hu
  unfold useCells at hu
  obtain ⟨x,_,hx⟩ := List.mem_flatMap.1 hu
  simp only [List.mem_cons,List.not_mem_nil,or_false] at hx
  rcases hx with rfl | rfl | rfl <;> rfl
theorem flatOne (sf : Nm × Nm → List UInt8) (l : List (Nm × Nm)) : ∀ u ∈ flatU sf l,u.oneCell' = true := by rw [flat_useCells]; exact useOne _
def impUs (sf : Nm × Nm → List UInt8) (l : List Imp) : List Us := l.map fun i => ⟨i.name,[],sf (i.name,[])⟩
theorem compact_nil (w : World) : Calls Tryz.prog 123 #[.slice none 0 0] w fun e w' => e = .returned (.slice none 0 0) ∧ w' = w := by
  go_enter Tryz.func123,Tryz.ntmps123
  go_wp2
  go_ret
  exact ⟨rfl,rfl⟩
theorem Turned1.below {g lo : Nat} {w0 w w' : World} (h : Turned1 g w w') (hb : Below lo w0 w) (hg : lo ≤ g) (hl : lo ≤ w.heap.size) : Below lo w0 w' := hb.trans ⟨h.os,h.tape,h.output,h.size,fun k hk => h.block k (by omega) (by omega)⟩
theorem uses_any {m : Nat} {S : Nat → Prop} {lo : Nat} (w : World) (V : VK) (lk : List Us) (uv : Value) (hv : Vw lo V lk uv w) (md : Mod) (ims : List (Option (Nat × Mod))) (hT : Trees m S lo w V md ims) (hlk : lk.length ≤ 8000000000)
    (sf : Nm × Nm → List UInt8) (hs1 : ∀ u ∈ lk,u.s = sf (keyU u)) (hs2 : ∀ j,(h1 : j < md.imports.length) → (h2 : j < ims.length) → seenT (ims[j].map Prod.snd) [] = sf (md.imports[j].name,[])) :
    Calls Tryz.prog 78 #[.pointer (some ⟨V.b,0,none⟩)] w fun e w' => ∃ v',e = .returned v' ∧ Below w.heap.size w w' ∧
      w'.ownsRow w.heap.size 185 3 v' (usesOf sf (lk.map keyU ++ md.imports.map fun i => (i.name,[]))).length (useCells (usesOf sf (lk.map keyU ++ md.imports.map fun i => (i.name,[])))) := by
  have hlo : lo ≤ w.heap.size := by have := hv.low; have := hv.lt; omega
  obtain ⟨c0,c1,c2,c3⟩ := hv.field
  have hvl := hv.lt
  obtain ⟨io,ic,hiv,_⟩ := hv.pts
  have hpl : V.pts.length = ims.length := by rw [hT.pts]; simp
  rw [hiv,hpl] at c2
  have hfew := hT.few
  have hil := hT.len
  have HV := hide hv
  have HT := hide hT
  have HS1 := hide hs1
  have HS2 := hide hs2
  obtain ⟨so,sc,huv⟩ := owns_shape' hv.lks
  subst huv
  have HCl := hide (cloneU_any w lo lk.length _ _ hv.lks (by omega) (useOne lk))
  obtain ⟨i0,hi,hz0,hz1,hz2⟩ := info_parts info_use
  clear hv hT hs1 hs2 hiv c0 c1
  go_enter Tryz.func78,Tryz.ntmps78
  go_wp2_with fail
  refine HCl.out.mono ?_
  rintro e w1 ⟨v1,rfl,ho1,hb1⟩
  have d2 := (below_cell hb1 hvl 2).trans c2
  have hvl1 : V.b < w1.heap.size := by have := hb1.size; omega
  have HB1 := hide hb1
  have HO1 := hide ho1
  clear hb1 ho1
  go_wp2
  go_loopg [3,15] ims.length (fun n s3 i wr => ∃ j : Nat,n + j = ims.length ∧ i = .int .i64 j ∧ Hid (wr.ownsRow w.heap.size 185 3 s3 (lk.length + j) (useCells (lk ++ impUs sf (md.imports.take j)))) ∧ Hid (Below w.heap.size w wr))
  case atStart => exact ⟨0,by omega,rfl,by show World.ownsRow _ _ _ _ _ _ _; simpa [impUs] using HO1.out,HB1.out⟩
  case round =>
    obtain ⟨j,hj,rfl,HOr,HBr⟩ := hrel
    obtain ⟨ro,rc,hus⟩ := owns_shape' HOr.out
    subst hus
    have hsz := HBr.out.size
    by_cases hlt : j < ims.length
    · have hjm : j < md.imports.length := by omega
      have hlt' : (j : Int) < (ims.length : Int) := by omega
      have HVr := hide (HV.out.below HBr.out)
      have HTr := hide (HT.out.below (HBr.out.mono hlo))
      have HSj := hide (HS2.out j hjm hlt)
      have HTk := hide (show impUs sf (md.imports.take (j + 1)) = impUs sf (md.imports.take j) ++ [⟨md.imports[j].name,[],sf (md.imports[j].name,[])⟩] by rw [List.take_succ_eq_append_getElem hjm]; unfold impUs; rw [List.map_append]; rfl)
      have HUse := hide (use_any wr V lk _ HVr.out (by omega) md ims HTr.out j hlt hjm [])
      have b1 : lk.length + j + 1 ≤ maxLen := by unfold maxLen; omega
      have b2 : (lk.length + j + 1) * 48 ≤ 140737488355328 := by omega
      go_wp2_with fail
      refine HUse.out.mono ?_
      rintro e w3 ⟨rfl,hb3⟩
      rw [HSj.out]
      have HB3 := hide (HBr.out.trans (hb3.mono hsz))
      have hs3 := HB3.out.size
      have HO3 := hide (owr_keep HOr.out fun k _ l => hb3.block k l)
      clear hb3
      generalize hnm : md.imports[j].name = nm at *
      go_wp2_with (at_builtin; refine app_where _ rfl (.tmp 18) (.tmp 22) 152 rfl w.heap.size 185 i0 (.agg #[.string ⟨#[]⟩,.string ⟨#[]⟩,.string ⟨#[]⟩]) 3 48 Tryz.underlying152 hi hz0 hz1 hz2 rfl (by decide) (.slice ro (lk.length + j) rc) (lk.length + j) (useCells (lk ++ impUs sf (md.imports.take j))) rfl (HO3.out.alloc _) ⟨w3.heap.size,0,none⟩ 1 1 [.string ⟨nm.toArray⟩,.string ⟨#[]⟩,.string ⟨(sf (nm,[])).toArray⟩] rfl rfl (new3_cells w3 _ _ _ _) ?h1 (by omega) b1 b2 ?h2 ?_)
      case h1 =>
        intro u hu
        simp only [List.mem_cons,List.not_mem_nil,or_false] at hu
        rcases hu with rfl | rfl | rfl <;> rfl
      case h2 => simp; omega
      intro g4 c4 w4 hown hgrow hwhere
      have HO4 := hide (show w4.ownsRow w.heap.size 185 3 (.slice (some ⟨g4,0,none⟩) (lk.length + (j + 1)) c4) (lk.length + (j + 1)) (useCells (lk ++ impUs sf (md.imports.take (j + 1)))) by rw [HTk.out,← List.append_assoc,useCells_snoc,← hnm]; rw [← hnm] at hown; exact hown)
      have HB4 := hide (show Below w.heap.size w w4 from by
        have hg := grown_alloc hgrow
        exact ⟨hg.os.trans HB3.out.os,hg.tape.trans HB3.out.tape,hg.output.trans HB3.out.output,by have := hg.size; omega,fun k hk => (hg.block k (by omega) (fun e => by have := (owns_block HO3.out k e.symm).1; omega)).trans (HB3.out.block k hk)⟩)
      clear hown hgrow hwhere
      go_wp2
      go_roundg (gk - 1)
      case measure => omega
      case rel => exact ⟨j + 1,by omega,by first | rfl | go_num,HO4.out,HB4.out⟩
    · have hje : j = ims.length := by omega
      have HJ := hide hje
      clear hje
      have hlt' : ¬ (j : Int) < (ims.length : Int) := by omega
      have hil2 : md.imports.length ≤ j := by omega
      have hjl : j ≤ 1000 := by omega
      have HK := hide (show (lk ++ impUs sf (md.imports.take j)).map keyU = lk.map keyU ++ md.imports.map fun i => (i.name,[]) by
        rw [List.map_append,List.take_of_length_le hil2]; unfold impUs; rw [List.map_map]; rfl)
      have HFl := hide (useCells_flat sf (lk ++ impUs sf (md.imports.take j)) (fun u hu => by
        rcases List.mem_append.1 hu with hu | hu
        · exact HS1.out u hu
        · unfold impUs at hu
          obtain ⟨i,_,rfl⟩ := List.mem_map.1 hu
          rfl))
      rw [HK.out] at HFl
      have hkl : (lk.map keyU ++ md.imports.map fun i => (i.name,([] : List UInt8))).length = lk.length + j := by have := HJ.out; simp; omega
      obtain ⟨keys,hkeys⟩ : ∃ keys,(lk.map keyU ++ md.imports.map fun i => (i.name,([] : List UInt8))) = keys := ⟨_,rfl⟩
      rw [hkeys] at HFl hkl
      have HKe := hide hkeys
      clear hkeys HK
      have how := HOr.out
      rw [HFl.out] at how
      rcases how.2 with ⟨hv0,hn0⟩ | ⟨g,cap,cur,hv0,hg0,hblk,hnc,hcm,hcs,htk⟩
      · have hk0 : keys = [] := List.eq_nil_of_length_eq_zero (by omega)
        have HU := hide (show usesOf sf keys = [] by rw [hk0]; simp [usesOf,sortL,compactL])
        simp only [Value.slice.injEq] at hv0
        obtain ⟨rfl,_,rfl⟩ := hv0
        have HN := hide hn0
        have HSo := hide (show Calls Tryz.prog 119 #[.slice none 0 0,.func (.func 120) #[] #[]] wr _ from AnyF.slices_SortFunc_none Tryz.sortU none 0 (.func (.func 120) #[] #[]) wr)
        have HC0 := hide (compact_nil wr)
        have HC2 := hide (cloneU_any wr w.heap.size 0 (.slice none 0 0) [] (World.ownsRow_nil _ _ _ _) (by omega) (fun u hu => by cases hu))
        clear how hkl hk0 hn0
        rw [HN.out]
        go_wp2_with fail
        refine HSo.out.mono ?_
        rintro e wr ⟨rfl,rfl⟩
        go_wp2_with fail
        refine HC0.out.mono ?_
        rintro e wr ⟨rfl,rfl⟩
        go_wp2_with fail
        refine HC2.out.mono ?_
        rintro e w5 ⟨v5,rfl,ho5,hb5⟩
        have HO5 := hide ho5
        have HB5 := hide hb5
        clear ho5 hb5
        go_wp2
        go_ret
        refine ⟨v5,rfl,HBr.out.trans (HB5.out.mono hsz),?_⟩
        rw [HKe.out,HU.out]
        exact own_base HO5.out hsz
      · simp only [Value.slice.injEq] at hv0
        obtain ⟨rfl,_,rfl⟩ := hv0
        have HRw := hide (show RowU sf g rc keys wr from ⟨cur,hblk,hcs,by rw [hkl]; exact htk⟩)
        have HSo := hide (sortU_any sf wr g rc keys HRw.out (by omega) (by omega))
        rw [hkl] at HSo
        have HKl := hide hkl
        have HSl := hide (show (sortL keys).length = lk.length + j by unfold sortL; rw [List.length_mergeSort]; exact hkl)
        clear how hblk htk hcs hkl
        go_wp2_with fail
        refine HSo.out.mono ?_
        rintro e w3 ⟨rfl,hr3,ht3⟩
        have HR3 := hide hr3
        have HT3 := hide ht3
        have HCo := hide (compact_any sf w3 g rc (sortL keys) hr3 (by rw [HSl.out]; exact hnc) hcm (by rw [HSl.out]; omega))
        rw [HSl.out] at HCo
        clear hr3 ht3
        go_wp2_with fail
        refine HCo.out.mono ?_
        rintro e w4 ⟨rfl,hr4,ht4⟩
        have hcl : (compactL (sortL keys)).length ≤ lk.length + j := by
          have := compactL_len (sortL keys) (sortL keys).length (Nat.le_refl _)
          rw [List.take_length,HSl.out] at this
          exact this
        have HC2 := hide (cloneU_any w4 w.heap.size _ _ _ (hr4.owns (lo := w.heap.size) hg0 (by omega) hcm) (by omega) (flatOne _ _))
        have HT4 := hide (HT3.out.go ht4)
        clear hr4 ht4
        go_wp2_with fail
        refine HC2.out.mono ?_
        rintro e w5 ⟨v5,rfl,ho5,hb5⟩
        have HO5 := hide ho5
        have HB5 := hide hb5
        clear ho5 hb5
        go_wp2
        go_ret
        have hz4 := HT4.out.size
        refine ⟨v5,rfl,(HT4.out.below HBr.out hg0 hsz).trans (HB5.out.mono (by omega)),?_⟩
        have := HO5.out
        rw [flat_useCells] at this
        have e1 : (usesOf sf keys).length = (compactL (sortL keys)).length := by simp [usesOf]
        rw [HKe.out,e1]
        exact own_base this (by omega)
end Go.Proofs.YtpmmjkiclngpmaaGreatDoor
