/- YtpmmjkiclngpmaaGreatDoorB18 -/
import Derived.Test.YtpmmjkiclngpmaaGreatDoorB12
import Derived.Test.YtpmmjkiclngpmaaGreatDoorB17
import Derived.Test.YtpmmjkiclngpmaaGreatDoorB13
import Derived.Test.YtpmmjkiclngpmaaGreatDoorB11
import Derived.Test.YtpmmjkiclngpmaaGreatDoorB10
import Derived.Test.YtpmmjkiclngpmaaGreatDoorB14
import Derived.Deep.LoopGhost
set_option maxRecDepth 100000
set_option linter.unusedSimpArgs false
set_option linter.unusedVariables false
set_option maxHeartbeats 12800000
namespace Go.Proofs.YtpmmjkiclngpmaaGreatDoor
open Go.RowKit Go.Maps Go.Lib
def PlAt (w : World) (b n : Nat) (pl : Sym → Option Nat) : Prop := ∃ get,MapV Tryz.prog w 87 b n get ∧ ∀ x : Sym,x.1.length ≤ maxLen → x.2.length ≤ maxLen → get (symL x) = (pl x).map fun k => .int .i64 (k : Int)
theorem PlAt.new (w : World) : PlAt (w.alloc (.map #[] 0)) w.heap.size 0 (fun _ => none) := ⟨_,MapV.new _ w _,fun _ _ _ => rfl⟩
theorem PlAt.lt {w : World} {b n : Nat} {pl : Sym → Option Nat} (h : PlAt w b n pl) : b < w.heap.size := by obtain ⟨g,a,_⟩ := h; exact a.lt
theorem PlAt.keep {w w' : World} {b n : Nat} {pl : Sym → Option Nat} (h : PlAt w b n pl) (hk : w'.heap[b]? = w.heap[b]?) : PlAt w' b n pl := by obtain ⟨g,a,c⟩ := h; exact ⟨g,a.keep hk,c⟩
theorem PlAt.isMap {w : World} {b n : Nat} {pl : Sym → Option Nat} (h : PlAt w b n pl) : ∃ es cl,w.heap[b]? = some (.map es cl) := by obtain ⟨g,a,_⟩ := h; exact a.isMap
theorem PlAt.look {w : World} {b n : Nat} {pl : Sym → Option Nat} (h : PlAt w b n pl) {x : Sym} (h1 : x.1.length ≤ maxLen) (h2 : x.2.length ≤ maxLen) :
    (Instr.lookup 240 (.map (some b)) (.agg #[.string ⟨x.1.toArray⟩,.string ⟨x.2.toArray⟩]) false).run Tryz.prog w = .ok (.int .i64 (((pl x).getD 0 : Nat) : Int)) w := by
  obtain ⟨g,a,c⟩ := h
  have := a.look symK und_places (Tryz.zeroValue3 w) (key_sym h1 h2)
  rw [c x h1 h2] at this
  rw [show Value.agg #[.string ⟨x.1.toArray⟩,.string ⟨x.2.toArray⟩] = symVal x from rfl,this]
  cases pl x <;> rfl
theorem PlAt.put {w : World} {b n : Nat} {pl : Sym → Option Nat} (h : PlAt w b n pl) (hn : n < maxLen) {x : Sym} (h1 : x.1.length ≤ maxLen) (h2 : x.2.length ≤ maxLen) (k : Nat) :
    ∃ w',(Instr.mapUpdate 240 (.map (some b)) (.agg #[.string ⟨x.1.toArray⟩,.string ⟨x.2.toArray⟩]) (.int .i64 (k : Int))).run Tryz.prog w = .ok () w' ∧ PlAt w' b (n + 1) (fun y => if y = x then some k else pl y) ∧ w.grownBy w' (some b) := by
  obtain ⟨g,a,c⟩ := h
  obtain ⟨w',r,r1,r2⟩ := a.put symK und_places hn (val := .int .i64 (k : Int)) (key_sym h1 h2)
  refine ⟨w',r,⟨_,r1,fun y hy1 hy2 => ?_⟩,r2⟩
  by_cases e : y = x
  · subst e; rw [upd_same]; simp
  · rw [upd_other _ _ _ _ (fun e' => e (symL_inj hy1 hy2 h1 h2 e'))]; simp only [if_neg e]; exact c y hy1 hy2
theorem info_ins2 : (Tryz.prog.info? 196).map (fun i => (i.zero,i.size,i.bytes)) = some (some (.agg #[.int .i64 0,.int .i64 0]),2,16) := by kernel_rfl
theorem insOne (l : List (Nat × Int)) : ∀ u ∈ insCells l,u.oneCell' = true := by
  intro u hu
  unfold insCells at hu
  obtain ⟨x,_,hx⟩ := List.mem_flatMap.1 hu
  simp only [List.mem_cons,List.not_mem_nil,or_false] at hx
  rcases hx with rfl | rfl <;> rfl
theorem cloneI_any (w : World) (base n : Nat) (v : Value) (xs : List Value) (h : w.ownsRow base 196 2 v n xs) (hn : n ≤ 40000000000) (h1 : ∀ u ∈ xs,u.oneCell' = true) :
    Calls Tryz.prog 183 #[v] w fun e w' => ∃ v',e = .returned v' ∧ w'.ownsRow w.heap.size 196 2 v' n xs ∧ Below w.heap.size w w' := by
  obtain ⟨i0,hi,hz0,hz1,hz2⟩ := info_parts info_ins2
  rcases h.2 with ⟨rfl,rfl⟩ | ⟨g,cap,cur,rfl,hb0,hblk,hnc,hcm,hcs,htk⟩
  · refine (AnyE.slices_Clone_nil Tryz.cloneI 0 0 w).mono ?_
    rintro e w' ⟨rfl,rfl⟩
    have hx : xs = [] := List.eq_nil_of_length_eq_zero (by simpa using h.1)
    subst hx
    exact ⟨_,rfl,World.ownsRow_nil _ _ _ _,Below.refl _ _⟩
  · refine (AnyE.slices_Clone Tryz.cloneI i0 (.agg #[.int .i64 0,.int .i64 0]) 2 16 hi hz0 hz1 hz2 rfl (by omega) Tryz.sizeOf196 g 0 n cap xs w h.1 (by unfold maxLen; omega) (by omega) (fun j u hj => ?_) h1).mono ?_
    · have hj' : j < n * 2 := by rw [← h.1]; exact (List.getElem?_eq_some_iff.1 hj).1
      rw [Nat.zero_add,owns_cell h j hj']
      exact hj
    · rintro e w' ⟨v',rfl,a,_,b⟩
      exact ⟨v',rfl,a,b⟩
def plN (pl : Sym → Option Nat) (x : Sym) : Nat := (pl x).getD 0
def bndF (pl : Sym → Option Nat) (f : CF) : CF := { f with code := f.code.map (lnk (plN pl) f.calls),calls := [] }
structure CFok (f : CF) : Prop where
  len : f.code.length ≤ 1000000
  idx : ∀ x ∈ f.code,x.1 = 5 → 0 ≤ x.2 ∧ x.2.toNat < f.calls.length
  nam : ∀ x ∈ f.calls,x.1.length ≤ 100000 ∧ x.2.length ≤ 100000
  cal : f.calls.length ≤ 1000000
  own : f.mod.length ≤ 100000 ∧ f.name.length ≤ 100000
theorem symCells_at (l : List (List UInt8 × List UInt8)) (j : Nat) (hj : j < l.length) : (symCells l)[j * 2]? = some (.string ⟨l[j].1.toArray⟩) ∧ (symCells l)[j * 2 + 1]? = some (.string ⟨l[j].2.toArray⟩) := by
  induction l generalizing j with
  | nil => simp at hj
  | cons x r ih =>
    rw [show symCells (x :: r) = .string ⟨x.1.toArray⟩ :: .string ⟨x.2.toArray⟩ :: symCells r from rfl]
    cases j with
    | zero => simp
    | succ j =>
      have := ih j (by simpa using hj)
      rw [show (j + 1) * 2 = j * 2 + 2 by omega]
      simpa using this
structure Bn (lo g o : Nat) (arr : Array Value) (t : TypeId) (kv : Value) (w1 : World) (c : List (Nat × Int)) (w : World) : Prop where
  but : ButS (fun k => k = g ∨ kv.ownBlock = some k) w1 w
  blk : w.heap[g]? = some (.cells (arr.setIfInBounds (o + 6) kv) t (0,0))
  cod : w.ownsRow lo 196 2 kv c.length (insCells c)
theorem Bn.below {lo g o : Nat} {arr : Array Value} {t : TypeId} {kv : Value} {w1 w w' : World} {c : List (Nat × Int)} (h : Bn lo g o arr t kv w1 c w) (hb : Below w.heap.size w w') : Bn lo g o arr t kv w1 c w' :=
  ⟨h.but.trans (ButS.of_below hb),(hb.block _ (lt_of_some h.blk)).trans h.blk,owr_keep h.cod fun k _ l => hb.block k l⟩
theorem Bn.put {lo g o kb n cap : Nat} {arr : Array Value} {t : TypeId} {w1 w : World} {c : List (Nat × Int)} (h : Bn lo g o arr t (.slice (some ⟨kb,0,none⟩) n cap) w1 c w) (hk : kb ≠ g) (j : Nat) (hj : j < c.length) (v : Int) :
    Bn lo g o arr t (.slice (some ⟨kb,0,none⟩) n cap) w1 (c.set j (c[j].1,v)) (w.setCell ⟨kb,j * 2 + 1,none⟩ (.int .i64 v)) := by
  refine ⟨h.but.set (Or.inl (Or.inr rfl)) _ _,(Below.heap_setCell _ _ _ _ (Ne.symm hk)).trans h.blk,?_⟩
  have hn : n = c.length := by
    obtain ⟨o,c,e⟩ := owns_shape' h.cod
    simp only [Value.slice.injEq] at e
    exact e.2.1
  subst hn
  have := owr_set h.cod (j * 2 + 1) (.int .i64 v)
  rw [insCells_set _ _ hj] at this
  rw [List.length_set]
  exact this
def lnkTo (L : Nat × Int → Nat × Int) (c : List (Nat × Int)) (j : Nat) : List (Nat × Int) := (c.take j).map L ++ c.drop j
theorem lnkTo_len (L : Nat × Int → Nat × Int) (c : List (Nat × Int)) (j : Nat) : (lnkTo L c j).length = c.length := by
  unfold lnkTo; rw [List.length_append,List.length_map,List.length_take,List.length_drop]; omega
theorem lnkTo_at (L : Nat × Int → Nat × Int) (c : List (Nat × Int)) (j : Nat) (hj : j < c.length) : (lnkTo L c j)[j]'(by rw [lnkTo_len]; exact hj) = c[j] := by
  unfold lnkTo
  rw [List.getElem_append_right (by rw [List.length_map,List.length_take]; omega)]
  simp only [List.length_map,List.length_take,List.getElem_drop]
  congr 1; omega
theorem lnkTo_next (L : Nat × Int → Nat × Int) (c : List (Nat × Int)) (j : Nat) (hj : j < c.length) : lnkTo L c (j + 1) = (lnkTo L c j).set j (L c[j]) := by
  unfold lnkTo
  have hl : ((c.take j).map L).length = j := by rw [List.length_map,List.length_take]; omega
  rw [List.set_append_right _ _ (by omega),hl,Nat.sub_self,List.take_succ_eq_append_getElem hj,List.map_append]
  have : (c.drop j).set 0 (L c[j]) = L c[j] :: c.drop (j + 1) := by rw [List.drop_eq_getElem_cons hj]; rfl
  rw [this]
  simp
theorem lnkTo_same (L : Nat × Int → Nat × Int) (c : List (Nat × Int)) (j : Nat) (hj : j < c.length) (h : L c[j] = c[j]) : lnkTo L c (j + 1) = lnkTo L c j := by
  rw [lnkTo_next L c j hj,h]
  have := lnkTo_at L c j hj
  rw [← this,List.set_getElem_self]
theorem bind_any (w : World) (g o : Nat) (arr : Array Value) (t : TypeId) (hblk : w.heap[g]? = some (.cells arr t (0,0))) (f : CF) (pv kv lv : Value) {S : Nat → Prop} (c6 : arr[o + 6]? = some kv) (c7 : arr[o + 7]? = some lv) (hr : FnRows S w f pv kv lv) (hS : ∀ k,S k → k ≠ g)
    (mb n : Nat) (pl : Sym → Option Nat) (hp : PlAt w mb n pl) (hok : CFok f) :
    Calls Tryz.prog 124 #[.pointer (some ⟨g,o,none⟩),.map (some mb)] w fun e w' => e = .returned (.tuple #[]) ∧ ∃ kv',ButS (fun k => k = g) w w' ∧ w'.heap[g]? = some (.cells ((arr.setIfInBounds (o + 6) kv').setIfInBounds (o + 7) (.slice none 0 0)) t (0,0)) ∧
      w'.ownsRow w.heap.size 196 2 kv' f.code.length (insCells (f.code.map (lnk (plN pl) f.calls))) := by
  have hgl := lt_of_some hblk
  have hgf := free_block hblk
  have d6 := (cell_block hblk (o + 6)).trans c6
  have d7 := (cell_block hblk (o + 7)).trans c7
  have hlen := hok.len
  have HCl := hide (cloneI_any w 0 f.code.length kv (insCells f.code) hr.co.1 (by omega) (insOne _))
  have HCa := hide hr.ca.1
  have HCaS := hide hr.ca.2
  have HS := hide hS
  have HP := hide hp
  have HOk := hide hok
  have hsz : o + 7 < arr.size := (Array.getElem?_eq_some_iff.1 c7).1
  have hmg : mb ≠ g := fun e => by obtain ⟨es,cl,h⟩ := hp.isMap; rw [e,hblk] at h; cases h
  have HBk := hide hblk
  have hml := hp.lt
  obtain ⟨ko0,kc0,hkv0⟩ := owns_shape' hr.co.1
  obtain ⟨lo0,lc0,hlv0⟩ := owns_shape' hr.ca.1
  subst hkv0 hlv0
  clear hr hS hp hok hblk
  go_enter Tryz.func124,Tryz.ntmps124
  go_wp2_with fail
  refine HCl.out.mono ?_
  rintro e w1 ⟨kv',rfl,ho1,hb1⟩
  obtain ⟨ko,kc,hkv⟩ := owns_shape' ho1
  subst hkv
  have e6 := (below_cell hb1 hgl (o + 6)).trans d6
  have e7 := (below_cell hb1 hgl (o + 7)).trans d7
  have hB1 := (hb1.block g hgl).trans HBk.out
  have hgf1 := free_block hB1
  have hgl1 := lt_of_some hB1
  have HB1 := hide hb1
  have hkg : (Value.slice ko f.code.length kc).ownBlock ≠ some g := fun e => by have := (owns_block ho1 g e).1; omega
  have HBn := hide (show Bn w.heap.size g o arr t (.slice ko f.code.length kc) w1 (lnkTo (lnk (plN pl) f.calls) f.code 0) (w1.setCell ⟨g,o + 6,none⟩ (.slice ko f.code.length kc)) from by
    refine ⟨(ButS.refl _ _).set (Or.inl (Or.inl rfl)) _ _,by rw [block_setCell hB1],?_⟩
    rw [lnkTo_len]
    have : lnkTo (lnk (plN pl) f.calls) f.code 0 = f.code := by simp [lnkTo]
    rw [this]
    exact owns_set_other ho1 hkg _ _)
  have HKg := hide hkg
  clear ho1 hb1 hB1 hkg
  go_wp2
  go_loopg [19] f.code.length (fun gk i wr => ∃ j : Nat,gk + j = f.code.length ∧ i = .int .i64 j ∧ Hid (Bn w.heap.size g o arr t (.slice ko f.code.length kc) w1 (lnkTo (lnk (plN pl) f.calls) f.code j) wr))
  case atStart => exact ⟨0,by omega,rfl,HBn.out⟩
  case round =>
    obtain ⟨j,hj,rfl,HBr⟩ := hrel
    have b6 := cell_block HBr.out.blk (o + 6)
    have b7 := cell_block HBr.out.blk (o + 7)
    have bf := free_block HBr.out.blk
    have bl := lt_of_some HBr.out.blk
    rw [Array.getElem?_setIfInBounds_self_of_lt (by omega)] at b6
    rw [Array.getElem?_setIfInBounds_ne (by omega),c7] at b7
    by_cases hlt : j < f.code.length
    · obtain ⟨kb,cap,cur,hkv2,_,hkb,_⟩ := owr_shape HBr.out.cod (by rw [lnkTo_len]; omega)
      rw [lnkTo_len] at hkv2
      simp only [Value.slice.injEq,true_and] at hkv2
      obtain ⟨rfl,rfl⟩ := hkv2
      have hkbl := lt_of_some hkb
      have hkf := free_block hkb
      have hkg2 : kb ≠ g := fun e => HKg.out (by rw [← e]; rfl)
      have hcod := HBr.out.cod
      rw [lnkTo_len] at hcod
      have hil : j < (lnkTo (lnk (plN pl) f.calls) f.code j).length := by rw [lnkTo_len]; exact hlt
      have r0 := (owns_cell hcod (j * 2) (by omega)).trans (insCells_at _ j hil).1
      have r1 := (owns_cell hcod (j * 2 + 1) (by omega)).trans (insCells_at _ j hil).2
      rw [lnkTo_at _ _ _ hlt] at r0 r1
      have hcap : j < kc := by
        have := HBr.out.cod
        rw [lnkTo_len] at this
        rcases this.2 with ⟨h,_⟩ | ⟨g',cap',cur',h,_,_,hnc,_⟩
        · cases h
        · simp only [Value.slice.injEq] at h; omega
      have HNx := hide (lnkTo_next (lnk (plN pl) f.calls) f.code j hlt)
      have HSm := hide (lnkTo_same (lnk (plN pl) f.calls) f.code j hlt)
      have HAt := hide (lnkTo_at (lnk (plN pl) f.calls) f.code j hlt)
      have HIx := hide (HOk.out.idx _ (List.getElem_mem hlt))
      have hszr := HBr.out.but.size
      by_cases h5 : f.code[j].1 = 5
      · obtain ⟨hi0,hi1⟩ := HIx.out h5
        obtain ⟨i,hi⟩ : ∃ i : Nat,f.code[j].2 = (i : Int) := ⟨f.code[j].2.toNat,by omega⟩
        have hi1' : i < f.calls.length := by rw [hi] at hi1; simpa using hi1
        have HL := hide (show lnk (plN pl) f.calls f.code[j] = (5,((plN pl f.calls[i] : Nat) : Int)) by
          unfold lnk
          rw [if_pos h5,hi,Int.toNat_natCast]
          simp [List.getD,hi1'])
        have HC5 := hide h5
        rw [h5] at r0
        rw [hi] at r1
        have hca := HCa.out
        obtain ⟨cb,ccap,ccur,hcv,_,hcb,hcc,_⟩ := owr_shape hca (by omega)
        simp only [Value.slice.injEq,true_and] at hcv
        obtain ⟨rfl,rfl⟩ := hcv
        have hcbS := HCaS.out cb rfl
        have hcbg := HS.out cb hcbS
        have hcbl := lt_of_some hcb
        have q0 := (owns_cell hca (i * 2) (by omega)).trans (symCells_at f.calls i hi1').1
        have q1 := (owns_cell hca (i * 2 + 1) (by omega)).trans (symCells_at f.calls i hi1').2
        have hsame : ∀ k,k < w.heap.size → k ≠ g → wr.heap[k]? = w.heap[k]? := fun k hk hne => by
          have h1 := HB1.out.size
          have h2 : (Value.slice (some ⟨kb,0,none⟩) f.code.length kc).ownBlock ≠ some k := fun e => by
            have := (owns_block hcod k e).1; omega
          exact (HBr.out.but.block k (by omega) (fun h => h.elim hne h2)).trans (HB1.out.block k hk)
        have s0 := (World.cell?_of_block (a := ⟨cb,i * 2,none⟩) (hsame cb hcbl hcbg)).trans q0
        have s1 := (World.cell?_of_block (a := ⟨cb,i * 2 + 1,none⟩) (hsame cb hcbl hcbg)).trans q1
        have hcbr : cb < wr.heap.size := by have := HB1.out.size; omega
        have hnm := HOk.out.nam _ (List.getElem_mem hi1')
        obtain ⟨X,hX⟩ : ∃ X,wr.alloc (.cells #[.int .i64 5,.int .i64 (i : Int)] 196) = X := ⟨_,rfl⟩
        have hbX : Below wr.heap.size wr X := by rw [← hX]; exact (Below.refl _ _).alloc (Nat.le_refl _) _
        have HBX := hide (HBr.out.below hbX)
        have hlk : (Instr.lookup 240 (.map (some mb)) (.agg #[.string ⟨f.calls[i].1.toArray⟩,.string ⟨f.calls[i].2.toArray⟩]) false).run Tryz.prog X.drew = .ok (.int .i64 ((plN pl f.calls[i] : Nat) : Int)) X.drew :=
          ((HP.out.keep (w' := wr) (hsame mb hml hmg)).keep (w' := X.drew) (hbX.drew.block mb (by have := HB1.out.size; omega))).look (by unfold maxLen; omega) (by unfold maxLen; omega)
        have y6 := (below_cell hbX bl (o + 6)).trans b6
        have y7 := (below_cell hbX bl (o + 7)).trans b7
        have yk := (below_cell hbX hkbl (j * 2 + 1)).trans r1
        have yl : g < X.heap.size := by have := hbX.size; omega
        have ykl : kb < X.heap.size := by have := hbX.size; omega
        have ykf : ∀ o,X.frozen? ⟨kb,o,none⟩ = false := fun o => (World.frozen?_of_block (a := ⟨kb,o,none⟩) (hbX.block _ hkbl)).trans (hkf o)
        have yc0 := (below_cell hbX hcbr (i * 2)).trans s0
        have yc1 := (below_cell hbX hcbr (i * 2 + 1)).trans s1
        have ycl : cb < X.heap.size := by have := hbX.size; omega
        have x0 : X.cell? ⟨wr.heap.size,0,none⟩ = some (.int .i64 5) := by rw [← hX]; simp
        have x1 : X.cell? ⟨wr.heap.size,1,none⟩ = some (.int .i64 (i : Int)) := by rw [← hX]; simp
        have xl : wr.heap.size < X.heap.size := by rw [← hX]; simp
        have HX := hide hX
        have HPut := hide ((HBX.out.below (w' := X.drew) ((Below.refl _ _).drew)).put hkg2 j hil ((plN pl f.calls[i] : Nat) : Int))
        have hil2 : i < lc0 := by omega
        clear hX hbX hsame hca hcb hi h5 hi0 hi1 hkb hcod q0 q1
        generalize hgc : f.calls[i] = sy at *
        generalize f.code[j] = ij at *
        go_wp2_with fail
        rw [HX.out]
        go_wp2_with fail
        go_region
        all_goals
          (try go_wp2)
          go_roundg (gk - 1)
          case measure => omega
          case rel =>
            refine ⟨j + 1,by omega,by first | rfl | go_num,?_⟩
            show Bn _ _ _ _ _ _ _ _ _
            rw [HNx.out,HL.out]
            have := HPut.out
            rw [HAt.out,HC5.out] at this
            exact this
      · have HL := hide (HSm.out (by unfold lnk; rw [if_neg h5]))
        have h5' : ¬ ((f.code[j].1 : Nat) : Int) = 5 := by omega
        have HBx := hide (HBr.out.below (w' := wr.alloc (.cells #[.int .i64 (f.code[j].1 : Int),.int .i64 f.code[j].2] 196)) ((Below.refl _ _).alloc (Nat.le_refl _) _))
        generalize f.code[j] = ij at *
        go_wp2
        go_roundg (gk - 1)
        case measure => omega
        case rel =>
          refine ⟨j + 1,by omega,by first | rfl | go_num,?_⟩
          show Bn _ _ _ _ _ _ _ _ _
          rw [HL.out]
          exact HBx.out
    · have hje : j = f.code.length := by omega
      have hlt' : ¬ (j : Int) < (f.code.length : Int) := by omega
      have HAll := hide (show lnkTo (lnk (plN pl) f.calls) f.code j = f.code.map (lnk (plN pl) f.calls) by rw [hje]; simp [lnkTo])
      go_wp2
      go_end0
      refine ⟨rfl,?_,.slice ko f.code.length kc,?_,?_⟩
      · have hbu := HBr.out.but
        have hcod := HBr.out.cod
        have h1 := HB1.out
        exact ButS.set (T := fun k => k = g) (a := w) (w := wr) ⟨hbu.os.trans h1.os,hbu.tape.trans h1.tape,hbu.output.trans h1.output,Nat.le_trans h1.size hbu.size,fun k hk hne => (hbu.block k (by have := h1.size; omega) (fun h => h.elim hne (fun e => by have := (owns_block hcod k e).1; omega))).trans (h1.block k hk)⟩ (Or.inl rfl) _ _
      · rw [block_setCell HBr.out.blk]
      · have := HBr.out.cod
        rw [HAll.out,List.length_map] at this
        exact owns_set_other this HKg.out _ _
end Go.Proofs.YtpmmjkiclngpmaaGreatDoor
