/- YtpmmjkiclngpmaaGreatDoorB40 -/
import Derived.Test.YtpmmjkiclngpmaaGreatDoorB18
import Derived.Test.YtpmmjkiclngpmaaGreatDoorB33
set_option maxRecDepth 100000
set_option linter.unusedSimpArgs false
set_option linter.unusedVariables false
set_option maxHeartbeats 12800000
namespace Go.Proofs.YtpmmjkiclngpmaaGreatDoor
open Go.RowKit Go.Maps
def symF (f : CF) : Sym := (f.mod,f.name)
def plcK : List CF → Nat → (Sym → Option Nat) → Sym → Option Nat
  | [],_,p => p
  | f :: r,k,p => plcK r (k + 1) (fun y => if y = symF f then some k else p y)
def plc (l : List CF) : Sym → Option Nat := plcK l 0 (fun _ => none)
theorem plcK_snoc (l : List CF) (f : CF) : ∀ (k : Nat) (p : Sym → Option Nat),plcK (l ++ [f]) k p = fun y => if y = symF f then some (k + l.length) else plcK l k p y := by
  induction l with
  | nil => intro k p; rfl
  | cons x r ih =>
    intro k p
    show plcK (r ++ [f]) (k + 1) _ = _
    rw [ih]
    funext y
    rw [List.length_cons,show k + 1 + r.length = k + (r.length + 1) by omega]
    rfl
theorem plc_snoc (l : List CF) (f : CF) : plc (l ++ [f]) = fun y => if y = symF f then some l.length else plc l y := by
  unfold plc
  rw [plcK_snoc]
  simp only [Nat.zero_add]
def linkP (os : List (List CF)) : List CF := os.flatten.map (bndF (plc os.flatten))
theorem FnsAt.at {S : Nat → Prop} {w : World} {xs : List Value} {fs : List CF} (h : FnsAt S w xs fs) (j : Nat) (hj : j < fs.length) :
    ∃ pv kv lv,FnRows S w fs[j] pv kv lv ∧ ∀ c,c < 8 → xs[j * 8 + c]? = (fnCells fs[j] pv kv lv)[c]? := by
  obtain ⟨pv,kv,lv,e,r⟩ := h.2 j hj
  refine ⟨pv,kv,lv,r,fun c hc => ?_⟩
  rw [← e,List.getElem?_take,if_pos hc,List.getElem?_drop]
theorem FnsAt.set {S S' : Nat → Prop} {w w' : World} {xs : List Value} {fs : List CF} (h : FnsAt S w xs fs) (hk : ∀ k,S k → k < w.heap.size → S' k ∧ w'.heap[k]? = w.heap[k]?) (j : Nat) (hj : j < fs.length) (f : CF) (pv kv lv kv' lv' : Value)
    (hx : ∀ c,c < 8 → xs[j * 8 + c]? = (fnCells fs[j] pv kv lv)[c]?) (hf : f.mod = fs[j].mod ∧ f.name = fs[j].name ∧ f.pub = fs[j].pub ∧ f.sig = fs[j].sig ∧ f.slots = fs[j].slots) (hr : FnRows S' w' f pv kv' lv') : FnsAt S' w' ((xs.set (j * 8 + 6) kv').set (j * 8 + 7) lv') (fs.set j f) := by
  obtain ⟨e1,e2,e3,e4,e5⟩ := hf
  refine ⟨by rw [List.length_set,List.length_set,List.length_set]; exact h.1,fun i hi => ?_⟩
  rw [List.length_set] at hi
  by_cases hij : i = j
  · subst hij
    refine ⟨pv,kv',lv',?_,by simpa using hr⟩
    have hl := h.1
    apply List.ext_getElem?
    intro c
    by_cases hc : c < 8
    · rw [List.getElem?_take,if_pos hc,List.getElem?_drop,List.getElem_set_self]
      have hlt : i * 8 + 7 < xs.length := by omega
      have key := hx c hc
      rcases (show c = 7 ∨ c = 6 ∨ c < 6 by omega) with rfl | rfl | h6
      · rw [List.getElem?_set_self (by rw [List.length_set]; exact hlt)]; rfl
      · rw [List.getElem?_set_ne (by omega),List.getElem?_set_self (by omega)]; rfl
      · rw [List.getElem?_set_ne (by omega),List.getElem?_set_ne (by omega),key]
        unfold fnCells
        rw [e1,e2,e3,e4,e5]
        rcases (show c = 0 ∨ c = 1 ∨ c = 2 ∨ c = 3 ∨ c = 4 ∨ c = 5 by omega) with rfl | rfl | rfl | rfl | rfl | rfl <;> rfl
    · rw [List.getElem?_eq_none (by rw [List.length_take]; omega),List.getElem?_eq_none (by simp [fnCells]; omega)]
  · obtain ⟨a,b,c,e,r⟩ := h.2 i hi
    refine ⟨a,b,c,?_,?_⟩
    · rw [List.getElem_set_ne (by omega),← e]
      apply List.ext_getElem?
      intro q
      rw [List.getElem?_take,List.getElem?_take]
      split
      · rw [List.getElem?_drop,List.getElem?_drop,List.getElem?_set_ne (by omega),List.getElem?_set_ne (by omega)]
      · rfl
    · rw [List.getElem_set_ne (by omega)]
      exact r.keep hk
structure Lnk (lo ib mb : Nat) (S : Nat → Prop) (fv : Value) (done : List CF) (w0 w : World) : Prop where
  bel : Below lo w0 w
  low : lo ≤ ib ∧ lo ≤ mb
  blk : w.heap[ib]? = some (.cells #[fv] 95 (0,0))
  row : ∃ xs,w.ownsRow lo 92 8 fv done.length xs ∧ FnsAt (fun k => S k ∧ k < lo) w xs done
  pla : PlAt w mb done.length (plc done)
  n1 : fv.ownBlock ≠ some ib
theorem Lnk.nmb {lo ib mb : Nat} {S : Nat → Prop} {fv : Value} {done : List CF} {w0 w : World} (h : Lnk lo ib mb S fv done w0 w) : fv.ownBlock ≠ some mb ∧ ib ≠ mb := by
  obtain ⟨es,cl,hm⟩ := h.pla.isMap
  refine ⟨fun e => ?_,fun e => ?_⟩
  · obtain ⟨xs,hx,_⟩ := h.row
    obtain ⟨c,t,f,hc⟩ := owns_isCells hx e
    rw [hm] at hc; cases hc
  · have := h.blk; rw [e,hm] at this; cases this
theorem Lnk.below {lo ib mb : Nat} {S : Nat → Prop} {fv : Value} {done : List CF} {w0 w w' : World} (h : Lnk lo ib mb S fv done w0 w) (hb : Below w.heap.size w w') : Lnk lo ib mb S fv done w0 w' where
  bel := h.bel.trans (hb.mono (by have := h.low.1; have := lt_of_some h.blk; omega))
  low := h.low
  blk := (hb.block _ (lt_of_some h.blk)).trans h.blk
  row := by obtain ⟨xs,a,b⟩ := h.row; exact ⟨xs,owr_keep a (fun k _ l => hb.block k l),b.keep fun k h1 h2 => ⟨h1,hb.block k h2⟩⟩
  pla := h.pla.keep (hb.block _ h.pla.lt)
  n1 := h.n1
structure LnkM (lo ib mb : Nat) (S : Nat → Prop) (fv : Value) (done : List CF) (f : CF) (w0 w : World) : Prop where
  bel : Below lo w0 w
  low : lo ≤ ib ∧ lo ≤ mb
  blk : w.heap[ib]? = some (.cells #[fv] 95 (0,0))
  row : ∃ xs,w.ownsRow lo 92 8 fv done.length xs ∧ FnsAt (fun k => S k ∧ k < lo) w xs done
  pla : PlAt w mb (done.length + 1) (plc (done ++ [f]))
  n1 : fv.ownBlock ≠ some ib
  n2 : fv.ownBlock ≠ some mb
  n3 : ib ≠ mb
theorem Lnk.note {lo ib mb : Nat} {S : Nat → Prop} {fv : Value} {done : List CF} {f : CF} {w0 w w' : World} (h : Lnk lo ib mb S fv done w0 w) (hg : w.grownBy w' (some mb)) (hp : PlAt w' mb (done.length + 1) (fun y => if y = symF f then some done.length else plc done y)) : LnkM lo ib mb S fv done f w0 w' := by
  have hl := h.low
  have hbl := lt_of_some h.blk
  have hne := h.nmb
  have hsz := h.bel.size
  have hlw : lo ≤ w.heap.size := by omega
  refine ⟨⟨hg.os.trans h.bel.os,hg.tape.trans h.bel.tape,hg.output.trans h.bel.output,Nat.le_trans h.bel.size hg.size,fun k hk => (hg.block k (by omega) (fun e => by simp at e; omega)).trans (h.bel.block k hk)⟩,h.low,(hg.block _ hbl (fun e => hne.2 (by simpa using e))).trans h.blk,?_,by rw [plc_snoc]; exact hp,h.n1,hne.1,hne.2⟩
  obtain ⟨xs,a,b⟩ := h.row
  exact ⟨xs,owr_keep a (fun k e l => hg.block k l (fun e' => hne.1 (by rw [← e']; exact e))),b.keep fun k h1 h2 => ⟨h1,hg.block k h2 (fun e => by simp at e; omega)⟩⟩
theorem LnkM.put {lo ib mb : Nat} {S : Nat → Prop} {fv fv' : Value} {done : List CF} {f : CF} {w0 w w2 : World} (h : LnkM lo ib mb S fv done f w0 w) (hg : w.grownBy w2 fv.ownBlock) {pv kv lv : Value} (hr : FnRows (fun k => S k ∧ k < lo) w f pv kv lv) {xs : List Value} (hx : w.ownsRow lo 92 8 fv done.length xs) (hfs : FnsAt (fun k => S k ∧ k < lo) w xs done)
    (ho : w2.ownsRow lo 92 8 fv' (done.length + 1) (xs ++ fnCells f pv kv lv)) (hw : ∀ k,fv'.ownBlock = some k → fv.ownBlock = some k ∨ w.heap.size ≤ k) :
    Lnk lo ib mb S fv' (done ++ [f]) w0 (w2.setCell ⟨ib,0,none⟩ fv') := by
  have hl := h.low
  have hbl := lt_of_some h.blk
  have hmb := h.pla.lt
  have hn : fv'.ownBlock ≠ some ib := fun e => (hw _ e).elim h.n1 (fun h' => by omega)
  have hlt : ∀ k,k < lo → fv.ownBlock ≠ some k := fun k hk e => by have := (owns_block hx k e).1; omega
  have hkeep : ∀ k,(S k ∧ k < lo) → k < w.heap.size → (S k ∧ k < lo) ∧ (w2.setCell ⟨ib,0,none⟩ fv').heap[k]? = w.heap[k]? := fun k h1 h2 => ⟨h1,(Below.heap_setCell _ _ _ _ (by show k ≠ ib; omega)).trans (hg.block k h2 (fun e => hlt k h1.2 e.symm))⟩
  refine ⟨?_,h.low,?_,⟨xs ++ fnCells f pv kv lv,?_,?_⟩,?_,hn⟩
  · have hb : Below lo w w2 := ⟨hg.os,hg.tape,hg.output,hg.size,fun k hk => hg.block k (by omega) (fun e => hlt k hk e.symm)⟩
    exact (h.bel.trans hb).setCell (p := ⟨ib,0,none⟩) hl.1 _
  · rw [block_setCell ((hg.block _ hbl (fun e => h.n1 e.symm)).trans h.blk)]; rfl
  · rw [List.length_append,List.length_singleton]; exact owns_set_other ho hn _ _
  · exact (hfs.keep hkeep).snoc (hr.keep hkeep)
  · rw [List.length_append,List.length_singleton]
    exact h.pla.keep ((Below.heap_setCell _ _ _ _ (by show mb ≠ ib; exact Ne.symm h.n3)).trans (hg.block _ hmb (fun e => h.n2 e.symm)))
def mapTo {α : Type} (L : α → α) (c : List α) (j : Nat) : List α := (c.take j).map L ++ c.drop j
theorem mapTo_len {α : Type} (L : α → α) (c : List α) (j : Nat) : (mapTo L c j).length = c.length := by
  unfold mapTo; rw [List.length_append,List.length_map,List.length_take,List.length_drop]; omega
theorem mapTo_at {α : Type} (L : α → α) (c : List α) (j : Nat) (hj : j < c.length) : (mapTo L c j)[j]'(by rw [mapTo_len]; exact hj) = c[j] := by
  unfold mapTo
  rw [List.getElem_append_right (by rw [List.length_map,List.length_take]; omega)]
  simp only [List.length_map,List.length_take,List.getElem_drop]
  congr 1; omega
theorem mapTo_next {α : Type} (L : α → α) (c : List α) (j : Nat) (hj : j < c.length) : mapTo L c (j + 1) = (mapTo L c j).set j (L c[j]) := by
  unfold mapTo
  have hl : ((c.take j).map L).length = j := by rw [List.length_map,List.length_take]; omega
  rw [List.set_append_right _ _ (by omega),hl,Nat.sub_self,List.take_succ_eq_append_getElem hj,List.map_append]
  have : (c.drop j).set 0 (L c[j]) = L c[j] :: c.drop (j + 1) := by rw [List.drop_eq_getElem_cons hj]; rfl
  rw [this]
  simp
def Rws (lo ib mb : Nat) (S : Nat → Prop) (fv : Value) (k : Nat) : Prop := (S k ∧ k < lo) ∨ (lo ≤ k ∧ k ≠ ib ∧ k ≠ mb ∧ fv.ownBlock ≠ some k)
structure Bou (lo ib mb : Nat) (S : Nat → Prop) (fv : Value) (l : List CF) (p : Sym → Option Nat) (w0 w : World) : Prop where
  bel : Below lo w0 w
  low : lo ≤ ib ∧ lo ≤ mb
  blk : w.heap[ib]? = some (.cells #[fv] 95 (0,0))
  row : ∃ xs,w.ownsRow lo 92 8 fv l.length xs ∧ FnsAt (Rws lo ib mb S fv) w xs l
  pla : ∃ n,PlAt w mb n p
  n1 : fv.ownBlock ≠ some ib
  n2 : fv.ownBlock ≠ some mb
  n3 : ib ≠ mb
theorem Lnk.bou {lo ib mb : Nat} {S : Nat → Prop} {fv : Value} {done : List CF} {w0 w : World} (h : Lnk lo ib mb S fv done w0 w) : Bou lo ib mb S fv done (plc done) w0 w where
  bel := h.bel
  low := h.low
  blk := h.blk
  row := by obtain ⟨xs,a,b⟩ := h.row; exact ⟨xs,a,b.keep fun k h1 _ => ⟨Or.inl h1,rfl⟩⟩
  pla := ⟨_,h.pla⟩
  n1 := h.n1
  n2 := h.nmb.1
  n3 := h.nmb.2
theorem Bou.step {lo ib mb g n cap : Nat} {S : Nat → Prop} {l : List CF} {p : Sym → Option Nat} {w0 w w' : World} (h : Bou lo ib mb S (.slice (some ⟨g,0,none⟩) n cap) l p w0 w) (i : Nat) (hi : i < l.length) {arr : Array Value} {t : TypeId} (hblk : w.heap[g]? = some (.cells arr t (0,0)))
    {xs : List Value} (ho : w.ownsRow lo 92 8 (.slice (some ⟨g,0,none⟩) n cap) l.length xs) (hfs : FnsAt (Rws lo ib mb S (.slice (some ⟨g,0,none⟩) n cap)) w xs l) {pv kv lv : Value} (hr : FnRows (Rws lo ib mb S (.slice (some ⟨g,0,none⟩) n cap)) w l[i] pv kv lv) (hx : ∀ c,c < 8 → xs[i * 8 + c]? = (fnCells l[i] pv kv lv)[c]?)
    {kv' : Value} (hb : ButS (fun k => k = g) w w') (hb' : w'.heap[g]? = some (.cells ((arr.setIfInBounds (i * 8 + 6) kv').setIfInBounds (i * 8 + 7) (.slice none 0 0)) t (0,0))) (hk' : w'.ownsRow w.heap.size 196 2 kv' l[i].code.length (insCells (l[i].code.map (lnk (plN p) l[i].calls)))) :
    Bou lo ib mb S (.slice (some ⟨g,0,none⟩) n cap) (l.set i (bndF p l[i])) p w0 w' := by
  have hg : g ≠ ib := fun e => h.n1 (by rw [← e]; rfl)
  have hgm : g ≠ mb := fun e => h.n2 (by rw [← e]; rfl)
  have hgl := (owns_block ho g rfl).1
  have hgs := lt_of_some hblk
  have hn : n = l.length := by
    obtain ⟨o,c,e⟩ := owns_shape' ho
    simp only [Value.slice.injEq] at e
    exact e.2.1
  subst hn
  have hl := h.low
  have hil := lt_of_some h.blk
  have hkeep : ∀ k,Rws lo ib mb S (.slice (some ⟨g,0,none⟩) l.length cap) k → k < w.heap.size → Rws lo ib mb S (.slice (some ⟨g,0,none⟩) l.length cap) k ∧ w'.heap[k]? = w.heap[k]? := fun k h1 h2 => ⟨h1,hb.block k h2 (fun e => by
    rcases h1 with q | q
    · omega
    · exact q.2.2.2 (by rw [e]; rfl))⟩
  refine ⟨⟨hb.os.trans h.bel.os,hb.tape.trans h.bel.tape,hb.output.trans h.bel.output,Nat.le_trans h.bel.size hb.size,fun k hk => (hb.block k (by omega) (by omega)).trans (h.bel.block k hk)⟩,h.low,(hb.block _ hil (fun e => hg e.symm)).trans h.blk,⟨(xs.set (i * 8 + 6) kv').set (i * 8 + 7) (.slice none 0 0),?_,?_⟩,?_,h.n1,h.n2,h.n3⟩
  · rw [List.length_set]
    have o1 := owr_set (owr_set ho (i * 8 + 6) kv') (i * 8 + 7) (.slice none 0 0)
    refine owr_keep o1 fun k e _ => ?_
    have e' : g = k := by simpa [Value.ownBlock] using e
    subst e'
    rw [hb',block_setCell (block_setCell hblk _ _)]
  · refine hfs.set hkeep i hi (bndF p l[i]) pv kv lv kv' (.slice none 0 0) hx ⟨rfl,rfl,rfl,rfl,rfl⟩ ⟨hr.pr.keep hkeep,?_,?_⟩
    · refine CRow.of (lo := w.heap.size) (by show World.ownsRow _ _ _ _ _ (l[i].code.map _).length _; rw [List.length_map]; exact hk') fun k e => Or.inr ?_
      have := (owns_block hk' k e).1
      exact ⟨by omega,by omega,by obtain ⟨_,hp⟩ := h.pla; have := hp.lt; omega,fun e' => by have : g = k := (by simpa [Value.ownBlock] using e'); omega⟩
    · exact CRow.of (lo := 0) (World.ownsRow_nil _ _ _ _) (fun k e => by simp [Value.ownBlock] at e)
  · obtain ⟨q,hp⟩ := h.pla
    exact ⟨q,hp.keep (hb.block _ hp.lt (fun e => hgm e.symm))⟩
end Go.Proofs.YtpmmjkiclngpmaaGreatDoor
