/- YtpmmjkiclngpmaaGreatDoorB06 -/
import Derived.Test.YtpmmjkiclngpmaaGreatDoorB05
set_option maxRecDepth 100000
set_option linter.unusedSimpArgs false
set_option linter.unusedVariables false
set_option maxHeartbeats 12800000
namespace Go.Proofs.YtpmmjkiclngpmaaGreatDoor
open Go.RowKit
structure Fr where
  f : Nat
  next : Nat
  base : Nat
structure MS where
  stack : List Int
  frames : List Fr
  fuel : Nat
  wrong : Nat
structure Fn where
  params : Nat
  slots : Nat
  code : List (Nat × Int)
def b2i (b : Bool) : Int := if b then 1 else 0
def bin2 (op : Nat) (a b : Int) : Int :=
  if op = 7 then b2i (decide (a < b)) else if op = 8 then b2i (decide (a = b)) else if op = 9 then wrap64 (a + b) else if op = 10 then wrap64 (a - b) else if op = 11 then wrap64 (a * b) else wrap64 (a.tdiv b)
def un1 (op : Nat) (a : Int) : Int := if op = 13 then wrap64 (-a) else b2i (decide (a = 0))
def frCells (fb : Nat) (x : Fr) : List Value := [.pointer (some ⟨fb,x.f * 8,none⟩),.int .i64 x.next,.int .i64 x.base]
def stCells (l : List Int) : List Value := l.reverse.map (Value.int .i64)
def fmCells (fb : Nat) (l : List Fr) : List Value := l.reverse.flatMap (frCells fb)
theorem stCells_cons (x : Int) (l : List Int) : stCells (x :: l) = stCells l ++ [.int .i64 x] := by simp [stCells]
theorem fmCells_cons (fb : Nat) (x : Fr) (l : List Fr) : fmCells fb (x :: l) = fmCells fb l ++ frCells fb x := by simp [fmCells]
theorem stCells_len (l : List Int) : (stCells l).length = l.length := by simp [stCells]
theorem fmCells_len (fb : Nat) (l : List Fr) : (fmCells fb l).length = l.length * 3 := by
  induction l with
  | nil => rfl
  | cons x r ih => rw [fmCells_cons,List.length_append,ih]; simp [frCells]; omega
structure Bd where
  lo : Nat
  tb : Nat
structure Bel (B : Bd) (w w' : World) : Prop where
  bel : Below B.lo w w'
  tab : w'.heap[B.tb]? = w.heap[B.tb]?
theorem Bel.refl (B : Bd) (w : World) : Bel B w w := ⟨Below.refl _ _,rfl⟩
theorem Bel.trans {B : Bd} {a b c : World} (h : Bel B a b) (k : Bel B b c) : Bel B a c := ⟨h.bel.trans k.bel,k.tab.trans h.tab⟩
theorem Bel.drew {B : Bd} {a b : World} (h : Bel B a b) : Bel B a b.drew := ⟨h.bel.drew,h.tab⟩
theorem Bel.alloc {B : Bd} {a b : World} (h : Bel B a b) (h1 : B.lo ≤ b.heap.size) (h2 : B.tb < b.heap.size) (o : Obj) : Bel B a (b.alloc o) := ⟨h.bel.alloc h1 o,(Below.heap_alloc _ _ _ h2).trans h.tab⟩
theorem Bel.of {B : Bd} {w w' : World} (h : Below w.heap.size w w') (h1 : B.lo ≤ w.heap.size) (h2 : B.tb < w.heap.size) : Bel B w w' := ⟨h.mono h1,h.block _ h2⟩
structure Mc (B : Bd) (mb ib fb : Nat) (sv fv : Value) (s : MS) (w : World) : Prop where
  low : B.lo ≤ mb
  blk : w.heap[mb]? = some (.cells #[.pointer (some ⟨ib,0,none⟩),sv,fv,.int .i64 s.fuel,.int .i64 s.wrong] 136 (0,0))
  stk : w.ownsRow B.lo 3 1 sv s.stack.length (stCells s.stack)
  frm : w.ownsRow B.lo 189 3 fv s.frames.length (fmCells fb s.frames)
  ne1 : sv.ownBlock ≠ some mb
  ne2 : fv.ownBlock ≠ some mb
  ne3 : ∀ k,sv.ownBlock = some k → fv.ownBlock ≠ some k
  tlt : B.tb < w.heap.size
  nm : mb ≠ B.tb
  ns : sv.ownBlock ≠ some B.tb
  nf : fv.ownBlock ≠ some B.tb
structure Ig (B ib fb : Nat) (fs : List Fn) (w : World) : Prop where
  i1 : ib < B
  i2 : fb < B
  row : ∃ cap,w.cell? ⟨ib,0,none⟩ = some (.slice (some ⟨fb,0,none⟩) fs.length cap)
  funs : ∀ j,(h : j < fs.length) → (∃ po pc,w.cell? ⟨fb,j * 8 + 3,none⟩ = some (.slice po fs[j].params pc)) ∧ w.cell? ⟨fb,j * 8 + 5,none⟩ = some (.int .i64 fs[j].slots) ∧
    ∃ cb cc,cb < B ∧ w.cell? ⟨fb,j * 8 + 6,none⟩ = some (.slice (some ⟨cb,0,none⟩) fs[j].code.length cc) ∧
      ∀ i,(hi : i < fs[j].code.length) → w.cell? ⟨cb,i * 2,none⟩ = some (.int .i64 (fs[j].code[i]).1) ∧ w.cell? ⟨cb,i * 2 + 1,none⟩ = some (.int .i64 (fs[j].code[i]).2)
  small : fs.length ≤ 100000 ∧ ∀ f ∈ fs,f.code.length ≤ 100000 ∧ f.slots ≤ 100000 ∧ f.params ≤ f.slots
theorem below_cell {B : Nat} {w w' : World} (h : Below B w w') {b : Nat} (hb : b < B) (o : Nat) : w'.cell? ⟨b,o,none⟩ = w.cell? ⟨b,o,none⟩ := by
  simp only [World.cell?,h.block b hb]
theorem Ig.below {B ib fb : Nat} {fs : List Fn} {w w' : World} (h : Ig B ib fb fs w) (hb : Below B w w') : Ig B ib fb fs w' where
  i1 := h.i1
  i2 := h.i2
  row := by obtain ⟨c,hc⟩ := h.row; exact ⟨c,(below_cell hb h.i1 0).trans hc⟩
  funs := by
    intro j hj
    obtain ⟨⟨po,pc,h1⟩,h2,cb,cc,h3,h4,h5⟩ := h.funs j hj
    exact ⟨⟨po,pc,(below_cell hb h.i2 _).trans h1⟩,(below_cell hb h.i2 _).trans h2,cb,cc,h3,(below_cell hb h.i2 _).trans h4,fun i hi => ⟨(below_cell hb h3 _).trans (h5 i hi).1,(below_cell hb h3 _).trans (h5 i hi).2⟩⟩
  small := h.small
theorem owr_shape {w : World} {base : Nat} {e : TypeId} {size : Nat} {v : Value} {n : Nat} {xs : List Value} (h : w.ownsRow base e size v n xs) (hn : 0 < n) :
    ∃ g cap cur,v = .slice (some ⟨g,0,none⟩) n cap ∧ base ≤ g ∧ w.heap[g]? = some (.cells cur e (0,0)) ∧ n ≤ cap ∧ cap ≤ maxLen ∧ cur.size = cap * size ∧ cur.toList.take (n * size) = xs := by
  rcases h.2 with ⟨_,h0⟩ | ⟨g,cap,cur,hh⟩
  · omega
  · exact ⟨g,cap,cur,hh⟩
theorem owns_shape' {w : World} {base : Nat} {e : TypeId} {size : Nat} {v : Value} {n : Nat} {xs : List Value} (h : w.ownsRow base e size v n xs) : ∃ o c,v = .slice o n c := by
  rcases h.2 with ⟨hv,h0⟩ | ⟨g,cap,cur,hv,_⟩
  · exact ⟨none,0,by rw [hv,h0]⟩
  · exact ⟨_,_,hv⟩
theorem owns_cell {w : World} {base : Nat} {e : TypeId} {size g n cap : Nat} {xs : List Value} (h : w.ownsRow base e size (.slice (some ⟨g,0,none⟩) n cap) n xs) (j : Nat) (hj : j < n * size) :
    w.cell? ⟨g,j,none⟩ = xs[j]? := by
  rcases h.2 with ⟨h,_⟩ | ⟨g0,cap0,cur,hv,hb0,hblk,hnc,hcm,hcs,htk⟩
  · simp at h
  · simp only [Value.slice.injEq,Option.some.injEq,Addr.mk.injEq] at hv
    obtain ⟨⟨rfl,_⟩,_,rfl⟩ := hv
    rw [cell_block hblk,← htk,List.getElem?_take,if_pos hj]
    simp
theorem owns_free {w : World} {base : Nat} {e : TypeId} {size g n cap : Nat} {xs : List Value} (h : w.ownsRow base e size (.slice (some ⟨g,0,none⟩) n cap) n xs) :
    (∀ o,w.frozen? ⟨g,o,none⟩ = false) ∧ g < w.heap.size ∧ base ≤ g ∧ n ≤ cap ∧ cap ≤ maxLen := by
  rcases h.2 with ⟨h,_⟩ | ⟨g0,cap0,cur,hv,hb0,hblk,hnc,hcm,hcs,htk⟩
  · simp at h
  · simp only [Value.slice.injEq,Option.some.injEq,Addr.mk.injEq] at hv
    obtain ⟨⟨rfl,_⟩,_,rfl⟩ := hv
    exact ⟨fun o => free_block hblk o,lt_of_some hblk,hb0,hnc,hcm⟩
theorem owns_cut {w : World} {base : Nat} {e : TypeId} {size g n cap : Nat} {xs : List Value} (h : w.ownsRow base e size (.slice (some ⟨g,0,none⟩) n cap) n xs) (m : Nat) (hm : m ≤ n) :
    w.ownsRow base e size (.slice (some ⟨g,0,none⟩) m cap) m (xs.take (m * size)) := by
  have hle : m * size ≤ n * size := Nat.mul_le_mul_right _ hm
  refine ⟨by rw [List.length_take,h.1]; omega,?_⟩
  rcases h.2 with ⟨h,_⟩ | ⟨g0,cap0,cur,hv,hb0,hblk,hnc,hcm,hcs,htk⟩
  · simp at h
  · simp only [Value.slice.injEq,Option.some.injEq,Addr.mk.injEq] at hv
    obtain ⟨⟨rfl,_⟩,_,rfl⟩ := hv
    exact Or.inr ⟨g,cap,cur,rfl,hb0,hblk,by omega,hcm,hcs,by rw [← htk,List.take_take]; congr 1; omega⟩
theorem owr_set {w : World} {base : Nat} {e : TypeId} {size g n cap : Nat} {xs : List Value} (h : w.ownsRow base e size (.slice (some ⟨g,0,none⟩) n cap) n xs) (j : Nat) (u : Value) :
    (w.setCell ⟨g,j,none⟩ u).ownsRow base e size (.slice (some ⟨g,0,none⟩) n cap) n (xs.set j u) := by
  refine ⟨by simpa using h.1,?_⟩
  rcases h.2 with ⟨h,_⟩ | ⟨g0,cap0,cur,hv,hb0,hblk,hnc,hcm,hcs,htk⟩
  · simp at h
  · simp only [Value.slice.injEq,Option.some.injEq,Addr.mk.injEq] at hv
    obtain ⟨⟨rfl,_⟩,_,rfl⟩ := hv
    refine Or.inr ⟨g,cap,_,rfl,hb0,block_setCell hblk j u,hnc,hcm,by simpa using hcs,?_⟩
    rw [← htk,Array.toList_setIfInBounds,List.take_set]
theorem owr_keep {w w' : World} {base : Nat} {e : TypeId} {size : Nat} {v : Value} {n : Nat} {xs : List Value} (h : w.ownsRow base e size v n xs) (hk : ∀ k,v.ownBlock = some k → k < w.heap.size → w'.heap[k]? = w.heap[k]?) : w'.ownsRow base e size v n xs := by
  refine ⟨h.1,?_⟩
  rcases h.2 with h | ⟨g,cap,cur,hv,hb0,hblk,rest⟩
  · exact Or.inl h
  · exact Or.inr ⟨g,cap,cur,hv,hb0,(hk g (by rw [hv]; rfl) (lt_of_some hblk)).trans hblk,rest⟩
theorem owns_block {w : World} {base : Nat} {e : TypeId} {size : Nat} {v : Value} {n : Nat} {xs : List Value} (h : w.ownsRow base e size v n xs) (k : Nat) (hk : v.ownBlock = some k) : base ≤ k ∧ k < w.heap.size := by
  rcases h.2 with ⟨hv,_⟩ | ⟨g,cap,cur,hv,hb0,hblk,rest⟩
  · rw [hv] at hk; simp [Value.ownBlock] at hk
  · rw [hv] at hk; simp [Value.ownBlock] at hk; subst hk; exact ⟨hb0,lt_of_some hblk⟩
theorem Mc.lt {B : Bd} {mb ib fb : Nat} {sv fv : Value} {s : MS} {w : World} (h : Mc B mb ib fb sv fv s w) : mb < w.heap.size := lt_of_some h.blk
theorem Mc.keep {B : Bd} {mb ib fb : Nat} {sv fv : Value} {s : MS} {w w' : World} (h : Mc B mb ib fb sv fv s w) (hk : ∀ k,B.lo ≤ k → k < w.heap.size → w'.heap[k]? = w.heap[k]?) (hs : w.heap.size ≤ w'.heap.size) : Mc B mb ib fb sv fv s w' :=
  ⟨h.low,(hk _ h.low h.lt).trans h.blk,owr_keep h.stk (fun k e l => hk k (owns_block h.stk k e).1 l),owr_keep h.frm (fun k e l => hk k (owns_block h.frm k e).1 l),h.ne1,h.ne2,h.ne3,Nat.lt_of_lt_of_le h.tlt hs,h.nm,h.ns,h.nf⟩
theorem Mc.below {B : Bd} {mb ib fb : Nat} {sv fv : Value} {s : MS} {w w' : World} (h : Mc B mb ib fb sv fv s w) (hb : Below w.heap.size w w') : Mc B mb ib fb sv fv s w' := h.keep (fun k _ l => hb.block k l) hb.size
theorem Mc.alloc {B : Bd} {mb ib fb : Nat} {sv fv : Value} {s : MS} {w : World} (h : Mc B mb ib fb sv fv s w) (o : Obj) : Mc B mb ib fb sv fv s (w.alloc o) := h.below ((Below.refl _ _).alloc (Nat.le_refl _) _)
theorem Mc.drew {B : Bd} {mb ib fb : Nat} {sv fv : Value} {s : MS} {w : World} (h : Mc B mb ib fb sv fv s w) : Mc B mb ib fb sv fv s w.drew := h.below ((Below.refl _ _).drew)
theorem Mc.field {B : Bd} {mb ib fb : Nat} {sv fv : Value} {s : MS} {w : World} (h : Mc B mb ib fb sv fv s w) :
    w.cell? ⟨mb,0,none⟩ = some (.pointer (some ⟨ib,0,none⟩)) ∧ w.cell? ⟨mb,1,none⟩ = some sv ∧ w.cell? ⟨mb,2,none⟩ = some fv ∧ w.cell? ⟨mb,3,none⟩ = some (.int .i64 s.fuel) ∧ w.cell? ⟨mb,4,none⟩ = some (.int .i64 s.wrong) := by
  refine ⟨?_,?_,?_,?_,?_⟩ <;> rw [cell_block h.blk] <;> rfl
def Went (B : Bd) (mb ib fb : Nat) (w : World) (s' : MS) (w' : World) : Prop := Bel B w w' ∧ ∃ sv fv,Mc B mb ib fb sv fv s' w'
theorem Went.mk {B : Bd} {mb ib fb : Nat} {w : World} {s' : MS} {w' : World} {sv fv : Value} (h : Bel B w w' ∧ Mc B mb ib fb sv fv s' w') : Went B mb ib fb w s' w' := ⟨h.1,_,_,h.2⟩
theorem Went.trans {B : Bd} {mb ib fb : Nat} {w w1 w2 : World} {s' : MS} (h : Bel B w w1) (k : Went B mb ib fb w1 s' w2) : Went B mb ib fb w s' w2 := ⟨h.trans k.1,k.2⟩
end Go.Proofs.YtpmmjkiclngpmaaGreatDoor
namespace Go.Proofs.YtpmmjkiclngpmaaGreatDoor
open Go.RowKit
theorem below_set {B : Bd} {a w : World} (h : Bel B a w) {b : Nat} (hb : B.lo ≤ b) (ht : b ≠ B.tb) (o : Nat) (u : Value) : Bel B a (w.setCell ⟨b,o,none⟩ u) :=
  ⟨h.bel.setCell (p := ⟨b,o,none⟩) hb u,(Below.heap_setCell _ _ _ _ (Ne.symm ht)).trans h.tab⟩
theorem owns_set_other {w : World} {base : Nat} {e : TypeId} {size : Nat} {v : Value} {n : Nat} {xs : List Value} (h : w.ownsRow base e size v n xs) {b : Nat} (hb : v.ownBlock ≠ some b) (o : Nat) (u : Value) : (w.setCell ⟨b,o,none⟩ u).ownsRow base e size v n xs :=
  owr_keep h fun k e _ => Below.heap_setCell _ _ _ _ (by intro hk; exact hb (by rw [e]; exact congrArg some hk))
theorem Mc.putStack {B : Bd} {mb ib fb : Nat} {sv fv : Value} {s : MS} {w w2 : World} (h : Mc B mb ib fb sv fv s w) (hg : w.grownBy w2 sv.ownBlock) (sv' : Value) (st : List Int)
    (ho : w2.ownsRow B.lo 3 1 sv' st.length (stCells st)) (hw : ∀ k,sv'.ownBlock = some k → sv.ownBlock = some k ∨ w.heap.size ≤ k) :
    Bel B w (w2.setCell ⟨mb,1,none⟩ sv') ∧ Mc B mb ib fb sv' fv { s with stack := st } (w2.setCell ⟨mb,1,none⟩ sv') := by
  have hmb := h.lt
  have hlow := h.low
  have hbl : Bel B w w2 := ⟨⟨hg.os,hg.tape,hg.output,hg.size,fun k hk => hg.block k (by omega) (fun e => by have := (owns_block h.stk k e.symm).1; omega)⟩,hg.block _ h.tlt (fun e => h.ns e.symm)⟩
  refine ⟨below_set hbl hlow h.nm _ _,⟨hlow,?_,?_,?_,?_,h.ne2,?_,by have := hg.size; have := h.tlt; simp [World.setCell]; omega,h.nm,fun e => (hw _ e).elim h.ns (fun h' => by have := h.tlt; omega),h.nf⟩⟩
  · rw [block_setCell ((hg.block _ hmb (fun e => h.ne1 e.symm)).trans h.blk)]
    rfl
  · refine owns_set_other ho ?_ _ _
    intro e
    rcases hw _ e with h' | h'
    · exact h.ne1 h'
    · omega
  · refine owns_set_other ?_ h.ne2 _ _
    exact owr_keep h.frm fun k e l => hg.block k l (fun e' => h.ne3 k e'.symm e)
  · intro e
    rcases hw _ e with h' | h'
    · exact h.ne1 h'
    · omega
  · intro k e e2
    rcases hw _ e with h' | h'
    · exact h.ne3 k h' e2
    · have := (owns_block h.frm k e2).2; omega
theorem Mc.putFrames {B : Bd} {mb ib fb : Nat} {sv fv : Value} {s : MS} {w w2 : World} (h : Mc B mb ib fb sv fv s w) (hg : w.grownBy w2 fv.ownBlock) (fv' : Value) (fr : List Fr)
    (ho : w2.ownsRow B.lo 189 3 fv' fr.length (fmCells fb fr)) (hw : ∀ k,fv'.ownBlock = some k → fv.ownBlock = some k ∨ w.heap.size ≤ k) :
    Bel B w (w2.setCell ⟨mb,2,none⟩ fv') ∧ Mc B mb ib fb sv fv' { s with frames := fr } (w2.setCell ⟨mb,2,none⟩ fv') := by
  have hmb := h.lt
  have hlow := h.low
  have hbl : Bel B w w2 := ⟨⟨hg.os,hg.tape,hg.output,hg.size,fun k hk => hg.block k (by omega) (fun e => by have := (owns_block h.frm k e.symm).1; omega)⟩,hg.block _ h.tlt (fun e => h.nf e.symm)⟩
  refine ⟨below_set hbl hlow h.nm _ _,⟨hlow,?_,?_,?_,h.ne1,?_,?_,by have := hg.size; have := h.tlt; simp [World.setCell]; omega,h.nm,h.ns,fun e => (hw _ e).elim h.nf (fun h' => by have := h.tlt; omega)⟩⟩
  · rw [block_setCell ((hg.block _ hmb (fun e => h.ne2 e.symm)).trans h.blk)]
    rfl
  · refine owns_set_other ?_ h.ne1 _ _
    exact owr_keep h.stk fun k e l => hg.block k l (fun e' => h.ne3 k e e'.symm)
  · refine owns_set_other ho ?_ _ _
    intro e
    rcases hw _ e with h' | h'
    · exact h.ne2 h'
    · omega
  · intro e
    rcases hw _ e with h' | h'
    · exact h.ne2 h'
    · omega
  · intro k e e2
    rcases hw _ e2 with h' | h'
    · exact h.ne3 k e h'
    · have := (owns_block h.stk k e).2; omega
theorem Mc.putFuel {B : Bd} {mb ib fb : Nat} {sv fv : Value} {s : MS} {w : World} (h : Mc B mb ib fb sv fv s w) (n : Nat) (v : Int) (hv : v = n) :
    Bel B w (w.setCell ⟨mb,3,none⟩ (.int .i64 v)) ∧ Mc B mb ib fb sv fv { s with fuel := n } (w.setCell ⟨mb,3,none⟩ (.int .i64 v)) := by
  refine ⟨below_set (Bel.refl _ _) h.low h.nm _ _,⟨h.low,?_,owns_set_other h.stk h.ne1 _ _,owns_set_other h.frm h.ne2 _ _,h.ne1,h.ne2,h.ne3,by have := h.tlt; simpa [World.setCell] using this,h.nm,h.ns,h.nf⟩⟩
  rw [block_setCell h.blk,hv]; rfl
theorem Mc.putWrong {B : Bd} {mb ib fb : Nat} {sv fv : Value} {s : MS} {w : World} (h : Mc B mb ib fb sv fv s w) (n : Nat) (v : Int) (hv : v = n) :
    Bel B w (w.setCell ⟨mb,4,none⟩ (.int .i64 v)) ∧ Mc B mb ib fb sv fv { s with wrong := n } (w.setCell ⟨mb,4,none⟩ (.int .i64 v)) := by
  refine ⟨below_set (Bel.refl _ _) h.low h.nm _ _,⟨h.low,?_,owns_set_other h.stk h.ne1 _ _,owns_set_other h.frm h.ne2 _ _,h.ne1,h.ne2,h.ne3,by have := h.tlt; simpa [World.setCell] using this,h.nm,h.ns,h.nf⟩⟩
  rw [block_setCell h.blk,hv]; rfl
theorem grown_refl (w : World) (r : Option Nat) : w.grownBy w r := ⟨rfl,rfl,rfl,Nat.le_refl _,fun _ _ _ => rfl⟩
theorem grown_alloc {w w' : World} {r : Option Nat} {o : Obj} (h : (w.alloc o).grownBy w' r) : w.grownBy w' r :=
  ⟨h.os,h.tape,h.output,by have := h.size; simp at this; omega,fun k hk hne => (h.block k (by simp; omega) hne).trans (Below.heap_alloc _ _ _ hk)⟩
theorem info_int : (Tryz.prog.info? 3).map (fun i => (i.zero,i.size,i.bytes)) = some (some (.int .i64 0),1,8) := by kernel_rfl
theorem push_any (B : Bd) (mb ib fb : Nat) (sv fv : Value) (s : MS) (w : World) (h : Mc B mb ib fb sv fv s w) (v : Int) (hl : s.stack.length ≤ 10000000) :
    Calls Tryz.prog 137 #[.pointer (some ⟨mb,0,none⟩),.int .i64 v] w fun e w' =>
      e = .returned (.tuple #[]) ∧ Went B mb ib fb w { s with stack := v :: s.stack } w' := by
  have h1 := h.lt
  have h2 := h.low
  obtain ⟨f0,f1,f2,f3,f4⟩ := h.field
  have g0 := free_block h.blk
  have HM := hide h
  clear h
  obtain ⟨i0,hi,hz0,hz1,hz2⟩ := info_parts info_int
  obtain ⟨so,sc,rfl⟩ := owns_shape' HM.out.stk
  go_enter Tryz.func137,Tryz.ntmps137
  go_wp2_with (at_builtin; refine app_where _ rfl _ _ 25 rfl B.lo 3 i0 (.int .i64 0) 1 8 Tryz.underlying25 hi hz0 hz1 hz2 rfl (by decide) _ _ _ rfl (HM.out.alloc _).stk ⟨w.heap.size,0,none⟩ 1 1 [.int .i64 v] rfl rfl ?c1 ?c2 (by decide) ?c3 ?c4 ?c5 ?_)
  case c1 =>
    intro j u hj
    match j,hj with
    | 0,hj => simp at hj; subst hj; simp [Addr.add]
  case c2 => intro u hu; simp at hu; subst hu; rfl
  case c3 => unfold maxLen; omega
  case c4 => omega
  case c5 => first | omega | (simp; omega)
  intro g' cap' w2 hown hgrow hwhere
  have HB := hide (HM.out.putStack (grown_alloc hgrow) (.slice (some ⟨g',0,none⟩) (s.stack.length + 1) cap') (v :: s.stack) (by rw [stCells_cons]; exact hown) (by
    intro k e
    simp only [Value.ownBlock,Option.some.injEq] at e
    subst e
    rcases hwhere with h | h
    · exact Or.inl h
    · exact Or.inr (by first | omega | (simp at h; omega))))
  have hmk : w2.heap[mb]? = some (.cells #[.pointer (some ⟨ib,0,none⟩),.slice so s.stack.length sc,fv,.int .i64 s.fuel,.int .i64 s.wrong] 136 (0,0)) := ((grown_alloc hgrow).block _ h1 (fun e => HM.out.ne1 e.symm)).trans HM.out.blk
  have k1 := cell_block hmk 1
  have kf := free_block hmk
  have hs2 := lt_of_some hmk
  simp at k1
  clear hown hgrow hwhere hmk
  go_wp2
  go_end0
  exact ⟨rfl,Went.mk HB.out⟩
theorem pop_any (B : Bd) (mb ib fb : Nat) (sv fv : Value) (s : MS) (w : World) (h : Mc B mb ib fb sv fv s w) (x : Int) (r : List Int) (hx : s.stack = x :: r) (hl : r.length ≤ 10000000) :
    Calls Tryz.prog 65 #[.pointer (some ⟨mb,0,none⟩)] w fun e w' =>
      e = .returned (.int .i64 x) ∧ Bel B w w' ∧ ∃ g cap,sv = .slice (some ⟨g,0,none⟩) (r.length + 1) cap ∧ Mc B mb ib fb (.slice (some ⟨g,0,none⟩) r.length cap) fv { s with stack := r } w' := by
  have h1 := h.lt
  have h2 := h.low
  have hlen : s.stack.length = r.length + 1 := by rw [hx]; rfl
  obtain ⟨g,cap,cur,rfl,hg1,hg2,hg3,hg4,hg5,hg6⟩ := owr_shape h.stk (by omega)
  obtain ⟨f0,f1,f2,f3,f4⟩ := h.field
  have g0 := free_block h.blk
  have hs := h.stk
  have hgl := lt_of_some hg2
  have c1 : w.cell? ⟨g,r.length,none⟩ = some (.int .i64 x) := by
    rw [owns_cell hs r.length (by omega),hx,stCells_cons,List.getElem?_append_right (by rw [stCells_len]; omega),stCells_len]
    simp
  rw [hlen] at f1
  have HP := hide (h.putStack (grown_refl w _) (.slice (some ⟨g,0,none⟩) r.length cap) r (by
    have := owns_cut hs r.length (by omega)
    rw [hx,stCells_cons,Nat.mul_one,List.take_left' (stCells_len r)] at this
    exact this) (fun k e => Or.inl e))
  have hcap : r.length ≤ cap := by omega
  have HL := hide hlen
  have hcm := hg4
  clear h hs hg2 hg5 hg6 hx hlen
  unfold maxLen at hcm
  go_enter Tryz.func65,Tryz.ntmps65
  go_wp2
  go_region
  all_goals (try go_wp2)
  go_region
  all_goals (try go_wp2)
  all_goals
    go_ret
    exact ⟨rfl,HP.out.1.drew.drew,g,cap,by rw [HL.out],HP.out.2.drew.drew⟩
end Go.Proofs.YtpmmjkiclngpmaaGreatDoor
namespace Go.Proofs.YtpmmjkiclngpmaaGreatDoor
open Go.RowKit
theorem popPair_any (B : Bd) (mb ib fb : Nat) (sv fv : Value) (s : MS) (w : World) (h : Mc B mb ib fb sv fv s w) (a b : Int) (q : List Int) (hx : s.stack = b :: a :: q) (hl : q.length ≤ 1000000) :
    Calls Tryz.prog 193 #[.pointer (some ⟨mb,0,none⟩)] w fun e w' =>
      e = .returned (.tuple #[.int .i64 a,.int .i64 b]) ∧ Went B mb ib fb w { s with stack := q } w' := by
  have HM := hide h
  have HX := hide hx
  clear h hx
  go_enter Tryz.func193,Tryz.ntmps193
  go_wp2_with fail
  refine (pop_any B mb ib fb sv fv s _ HM.out b (a :: q) HX.out (by simp only [List.length_cons]; omega)).mono ?_
  rintro e w1 ⟨rfl,hb,d,dc,hsv,hm⟩
  have HB := hide hb
  have HM1 := hide hm
  clear hb hm hsv
  go_wp2_with fail
  refine (pop_any B mb ib fb _ fv _ _ HM1.out a q rfl (by omega)).mono ?_
  rintro e w2 ⟨rfl,hb,d,dc,hsv,hm⟩
  have HW := hide (Went.trans HB.out (Went.mk ⟨hb,hm⟩))
  clear hb hm hsv
  go_wp2
  go_ret2
  exact ⟨rfl,HW.out⟩
theorem pushTruth_any (B : Bd) (mb ib fb : Nat) (sv fv : Value) (s : MS) (w : World) (h : Mc B mb ib fb sv fv s w) (t : Bool) (hl : s.stack.length ≤ 10000000) :
    Calls Tryz.prog 194 #[.pointer (some ⟨mb,0,none⟩),.bool t] w fun e w' =>
      e = .returned (.tuple #[]) ∧ Went B mb ib fb w { s with stack := b2i t :: s.stack } w' := by
  have HM := hide h
  clear h
  cases t
  all_goals
    go_enter Tryz.func194,Tryz.ntmps194
    go_wp2_with fail
    refine (push_any B mb ib fb sv fv s _ HM.out _ hl).mono ?_
    rintro e w1 ⟨rfl,hw⟩
    have HW := hide hw
    clear hw
    go_wp2
    go_end0
    exact ⟨rfl,HW.out⟩
theorem add_any (B : Bd) (mb ib fb : Nat) (sv fv : Value) (s : MS) (w : World) (h : Mc B mb ib fb sv fv s w) (a b : Int) (q : List Int) (hx : s.stack = b :: a :: q) (hl : q.length ≤ 1000000) (v : Int) :
    Calls Tryz.prog 145 #[.pointer (some ⟨mb,0,none⟩),.int .i64 v] w fun e w' =>
      e = .returned (.tuple #[]) ∧ Went B mb ib fb w { s with stack := bin2 9 a b :: q } w' := by
  have HM := hide h
  have HX := hide hx
  clear h hx
  go_enter Tryz.func145,Tryz.ntmps145
  go_wp2_with fail
  refine (popPair_any B mb ib fb sv fv s _ HM.out a b q HX.out hl).mono ?_
  rintro e w1 ⟨rfl,hb1,sv1,fv1,hm1⟩
  have HB := hide hb1
  have HM1 := hide hm1
  clear hb1 hm1
  go_wp2_with fail
  refine (push_any B mb ib fb _ _ _ _ HM1.out _ (by show q.length ≤ _; omega)).mono ?_
  rintro e w2 ⟨rfl,hw⟩
  have HW := hide (Went.trans HB.out hw)
  clear hw
  go_wp2
  go_end0
  exact ⟨rfl,by have := HW.out; first | exact this | simpa [bin2,wrap64] using this⟩
theorem subtract_any (B : Bd) (mb ib fb : Nat) (sv fv : Value) (s : MS) (w : World) (h : Mc B mb ib fb sv fv s w) (a b : Int) (q : List Int) (hx : s.stack = b :: a :: q) (hl : q.length ≤ 1000000) (v : Int) :
    Calls Tryz.prog 146 #[.pointer (some ⟨mb,0,none⟩),.int .i64 v] w fun e w' =>
      e = .returned (.tuple #[]) ∧ Went B mb ib fb w { s with stack := bin2 10 a b :: q } w' := by
  have HM := hide h
  have HX := hide hx
  clear h hx
  go_enter Tryz.func146,Tryz.ntmps146
  go_wp2_with fail
  refine (popPair_any B mb ib fb sv fv s _ HM.out a b q HX.out hl).mono ?_
  rintro e w1 ⟨rfl,hb1,sv1,fv1,hm1⟩
  have HB := hide hb1
  have HM1 := hide hm1
  clear hb1 hm1
  go_wp2_with fail
  refine (push_any B mb ib fb _ _ _ _ HM1.out _ (by show q.length ≤ _; omega)).mono ?_
  rintro e w2 ⟨rfl,hw⟩
  have HW := hide (Went.trans HB.out hw)
  clear hw
  go_wp2
  go_end0
  exact ⟨rfl,by have := HW.out; first | exact this | simpa [bin2,wrap64] using this⟩
theorem multiply_any (B : Bd) (mb ib fb : Nat) (sv fv : Value) (s : MS) (w : World) (h : Mc B mb ib fb sv fv s w) (a b : Int) (q : List Int) (hx : s.stack = b :: a :: q) (hl : q.length ≤ 1000000) (v : Int) :
    Calls Tryz.prog 147 #[.pointer (some ⟨mb,0,none⟩),.int .i64 v] w fun e w' =>
      e = .returned (.tuple #[]) ∧ Went B mb ib fb w { s with stack := bin2 11 a b :: q } w' := by
  have HM := hide h
  have HX := hide hx
  clear h hx
  go_enter Tryz.func147,Tryz.ntmps147
  go_wp2_with fail
  refine (popPair_any B mb ib fb sv fv s _ HM.out a b q HX.out hl).mono ?_
  rintro e w1 ⟨rfl,hb1,sv1,fv1,hm1⟩
  have HB := hide hb1
  have HM1 := hide hm1
  clear hb1 hm1
  go_wp2_with fail
  refine (push_any B mb ib fb _ _ _ _ HM1.out _ (by show q.length ≤ _; omega)).mono ?_
  rintro e w2 ⟨rfl,hw⟩
  have HW := hide (Went.trans HB.out hw)
  clear hw
  go_wp2
  go_end0
  exact ⟨rfl,by have := HW.out; first | exact this | simpa [bin2,wrap64] using this⟩
theorem less_any (B : Bd) (mb ib fb : Nat) (sv fv : Value) (s : MS) (w : World) (h : Mc B mb ib fb sv fv s w) (a b : Int) (q : List Int) (hx : s.stack = b :: a :: q) (hl : q.length ≤ 1000000) (v : Int) :
    Calls Tryz.prog 143 #[.pointer (some ⟨mb,0,none⟩),.int .i64 v] w fun e w' =>
      e = .returned (.tuple #[]) ∧ Went B mb ib fb w { s with stack := bin2 7 a b :: q } w' := by
  have HM := hide h
  have HX := hide hx
  clear h hx
  rcases hz : decide (a < b) with _ | _
  all_goals
    have HZ := hide hz
    simp only [decide_eq_true_eq,decide_eq_false_iff_not] at hz
    go_enter Tryz.func143,Tryz.ntmps143
    go_wp2_with fail
    refine (popPair_any B mb ib fb sv fv s _ HM.out a b q HX.out hl).mono ?_
    rintro e w1 ⟨rfl,hb1,sv1,fv1,hm1⟩
    have HB := hide hb1
    have HM1 := hide hm1
    clear hb1 hm1
    go_wp2_with fail
    refine (pushTruth_any B mb ib fb _ _ _ _ HM1.out _ (by show q.length ≤ _; omega)).mono ?_
    rintro e w2 ⟨rfl,hw⟩
    have HW := hide (Went.trans HB.out hw)
    clear hw
    go_wp2
    go_end0
    refine ⟨rfl,?_⟩
    have := HW.out
    simpa [bin2,b2i,hz] using this
theorem equal_any (B : Bd) (mb ib fb : Nat) (sv fv : Value) (s : MS) (w : World) (h : Mc B mb ib fb sv fv s w) (a b : Int) (q : List Int) (hx : s.stack = b :: a :: q) (hl : q.length ≤ 1000000) (v : Int) :
    Calls Tryz.prog 144 #[.pointer (some ⟨mb,0,none⟩),.int .i64 v] w fun e w' =>
      e = .returned (.tuple #[]) ∧ Went B mb ib fb w { s with stack := bin2 8 a b :: q } w' := by
  have HM := hide h
  have HX := hide hx
  clear h hx
  rcases hz : decide (a = b) with _ | _
  all_goals
    have HZ := hide hz
    simp only [decide_eq_true_eq,decide_eq_false_iff_not] at hz
    go_enter Tryz.func144,Tryz.ntmps144
    go_wp2_with fail
    refine (popPair_any B mb ib fb sv fv s _ HM.out a b q HX.out hl).mono ?_
    rintro e w1 ⟨rfl,hb1,sv1,fv1,hm1⟩
    have HB := hide hb1
    have HM1 := hide hm1
    clear hb1 hm1
    go_wp2_with fail
    refine (pushTruth_any B mb ib fb _ _ _ _ HM1.out _ (by show q.length ≤ _; omega)).mono ?_
    rintro e w2 ⟨rfl,hw⟩
    have HW := hide (Went.trans HB.out hw)
    clear hw
    go_wp2
    go_end0
    refine ⟨rfl,?_⟩
    have := HW.out
    simpa [bin2,b2i,hz] using this
theorem divide_any (B : Bd) (mb ib fb : Nat) (sv fv : Value) (s : MS) (w : World) (h : Mc B mb ib fb sv fv s w) (a b : Int) (q : List Int) (hx : s.stack = b :: a :: q) (hl : q.length ≤ 1000000) (v : Int) (hb : ¬ b = 0) :
    Calls Tryz.prog 148 #[.pointer (some ⟨mb,0,none⟩),.int .i64 v] w fun e w' =>
      e = .returned (.tuple #[]) ∧ Went B mb ib fb w { s with stack := bin2 12 a b :: q } w' := by
  have HM := hide h
  have HX := hide hx
  clear h hx
  go_enter Tryz.func148,Tryz.ntmps148
  go_wp2_with fail
  refine (popPair_any B mb ib fb sv fv s _ HM.out a b q HX.out hl).mono ?_
  rintro e w1 ⟨rfl,hb1,sv1,fv1,hm1⟩
  have HB := hide hb1
  have HM1 := hide hm1
  clear hb1 hm1
  go_wp2_with fail
  refine (push_any B mb ib fb _ _ _ _ HM1.out _ (by show q.length ≤ _; omega)).mono ?_
  rintro e w2 ⟨rfl,hw⟩
  have HW := hide (Went.trans HB.out hw)
  clear hw
  go_wp2
  go_end0
  exact ⟨rfl,by have := HW.out; first | exact this | simpa [bin2,wrap64] using this⟩
theorem divide_zero (B : Bd) (mb ib fb : Nat) (sv fv : Value) (s : MS) (w : World) (h : Mc B mb ib fb sv fv s w) (a : Int) (q : List Int) (hx : s.stack = 0 :: a :: q) (hl : q.length ≤ 1000000) (v : Int) :
    Calls Tryz.prog 148 #[.pointer (some ⟨mb,0,none⟩),.int .i64 v] w fun e w' =>
      e = .returned (.tuple #[]) ∧ Went B mb ib fb w { s with stack := q,wrong := 12 } w' := by
  have HM := hide h
  have HX := hide hx
  clear h hx
  go_enter Tryz.func148,Tryz.ntmps148
  go_wp2_with fail
  refine (popPair_any B mb ib fb sv fv s _ HM.out a 0 q HX.out hl).mono ?_
  rintro e w1 ⟨rfl,hb1,sv1,fv1,hm1⟩
  obtain ⟨f0,f1,f2,f3,f4⟩ := hm1.field
  have g0 := free_block hm1.blk
  have h1 := hm1.lt
  have HB := hide hb1
  have HP := hide (hm1.putWrong 12 12 rfl)
  clear hb1 hm1
  go_wp2
  refine bodyPost_ret (v := .tuple #[]) (by simp [results,Tryz.results148,go_sem]) rfl ?_
  exact ⟨rfl,Went.trans HB.out (Went.mk HP.out)⟩
theorem negate_any (B : Bd) (mb ib fb : Nat) (sv fv : Value) (s : MS) (w : World) (h : Mc B mb ib fb sv fv s w) (a : Int) (q : List Int) (hx : s.stack = a :: q) (hl : q.length ≤ 1000000) (v : Int) :
    Calls Tryz.prog 149 #[.pointer (some ⟨mb,0,none⟩),.int .i64 v] w fun e w' =>
      e = .returned (.tuple #[]) ∧ Went B mb ib fb w { s with stack := un1 13 a :: q } w' := by
  have HM := hide h
  have HX := hide hx
  clear h hx
  go_enter Tryz.func149,Tryz.ntmps149
  go_wp2_with fail
  refine (pop_any B mb ib fb sv fv s _ HM.out a q HX.out (by omega)).mono ?_
  rintro e w1 ⟨rfl,hb1,d,dc,hsv,hm1⟩
  have HB := hide hb1
  have HM1 := hide hm1
  clear hb1 hm1 hsv
  go_wp2_with fail
  refine (push_any B mb ib fb _ _ _ _ HM1.out _ (by show q.length ≤ _; omega)).mono ?_
  rintro e w2 ⟨rfl,hw⟩
  have HW := hide (Went.trans HB.out hw)
  clear hw
  go_wp2
  go_end0
  exact ⟨rfl,by have := HW.out; first | exact this | simpa [un1,wrap64] using this⟩
theorem not_any (B : Bd) (mb ib fb : Nat) (sv fv : Value) (s : MS) (w : World) (h : Mc B mb ib fb sv fv s w) (a : Int) (q : List Int) (hx : s.stack = a :: q) (hl : q.length ≤ 1000000) (v : Int) :
    Calls Tryz.prog 150 #[.pointer (some ⟨mb,0,none⟩),.int .i64 v] w fun e w' =>
      e = .returned (.tuple #[]) ∧ Went B mb ib fb w { s with stack := un1 14 a :: q } w' := by
  have HM := hide h
  have HX := hide hx
  clear h hx
  rcases hz : (a == 0) with _ | _
  all_goals
    go_enter Tryz.func150,Tryz.ntmps150
    go_wp2_with fail
    refine (pop_any B mb ib fb sv fv s _ HM.out a q HX.out (by omega)).mono ?_
    rintro e w1 ⟨rfl,hb1,d,dc,hsv,hm1⟩
    have HB := hide hb1
    have HM1 := hide hm1
    clear hb1 hm1 hsv
    go_wp2_with fail
    refine (pushTruth_any B mb ib fb _ _ _ _ HM1.out _ (by show q.length ≤ _; omega)).mono ?_
    rintro e w2 ⟨rfl,hw⟩
    have HW := hide (Went.trans HB.out hw)
    clear hw
    go_wp2
    go_end0
    refine ⟨rfl,?_⟩
    have := HW.out
    first | (simpa [un1,b2i,hz] using this) | (simp at hz; simpa [un1,b2i,hz] using this)
end Go.Proofs.YtpmmjkiclngpmaaGreatDoor
