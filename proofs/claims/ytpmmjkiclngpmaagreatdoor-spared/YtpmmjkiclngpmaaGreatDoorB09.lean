/- YtpmmjkiclngpmaaGreatDoorB09 -/
import Derived.Test.YtpmmjkiclngpmaaGreatDoorB06
set_option maxRecDepth 100000
set_option linter.unusedSimpArgs false
set_option linter.unusedVariables false
set_option maxHeartbeats 12800000
namespace Go.Proofs.YtpmmjkiclngpmaaGreatDoor
open Go.RowKit
structure Us where
  m : List UInt8
  n : List UInt8
  s : List UInt8
def useCells (l : List Us) : List Value := l.flatMap fun x => [.string ⟨x.m.toArray⟩,.string ⟨x.n.toArray⟩,.string ⟨x.s.toArray⟩]
theorem useCells_snoc (l : List Us) (x : Us) : useCells (l ++ [x]) = useCells l ++ [.string ⟨x.m.toArray⟩,.string ⟨x.n.toArray⟩,.string ⟨x.s.toArray⟩] := by simp [useCells]
def ptrCells (l : List (Option Addr)) : List Value := l.map Value.pointer
structure VK where
  b : Nat
  nm : List UInt8
  mb : Nat
  iv : Value
  pts : List (Option Addr)
structure Vw (lo : Nat) (V : VK) (lk : List Us) (uv : Value) (w : World) : Prop where
  low : lo ≤ V.b
  blk : w.heap[V.b]? = some (.cells #[.string ⟨V.nm.toArray⟩,.pointer (some ⟨V.mb,0,none⟩),V.iv,uv] 214 (0,0))
  imp : w.ownsRow lo 105 1 V.iv V.pts.length (ptrCells V.pts)
  lks : w.ownsRow lo 185 3 uv lk.length (useCells lk)
  n1 : V.iv.ownBlock ≠ some V.b
  n2 : uv.ownBlock ≠ some V.b
  n3 : ∀ k,V.iv.ownBlock = some k → uv.ownBlock ≠ some k
def VHas (V : VK) (uv : Value) (k : Nat) : Prop := k = V.b ∨ V.iv.ownBlock = some k ∨ uv.ownBlock = some k
theorem Vw.lt {lo : Nat} {V : VK} {lk : List Us} {uv : Value} {w : World} (h : Vw lo V lk uv w) : V.b < w.heap.size := lt_of_some h.blk
theorem Vw.has {lo : Nat} {V : VK} {lk : List Us} {uv : Value} {w : World} (h : Vw lo V lk uv w) {k : Nat} (hk : VHas V uv k) : lo ≤ k ∧ k < w.heap.size := by
  rcases hk with rfl | hk | hk
  · exact ⟨h.low,h.lt⟩
  · exact owns_block h.imp k hk
  · exact owns_block h.lks k hk
theorem owns_isCells {w : World} {base : Nat} {e : TypeId} {size : Nat} {v : Value} {n : Nat} {xs : List Value} (h : w.ownsRow base e size v n xs) {k : Nat} (hk : v.ownBlock = some k) : ∃ c t f,w.heap[k]? = some (.cells c t f) := by
  rcases h.2 with ⟨rfl,_⟩ | ⟨g,cap,cur,rfl,_,hg,_⟩
  · simp [Value.ownBlock] at hk
  · simp [Value.ownBlock] at hk
    subst hk
    exact ⟨_,_,_,hg⟩
theorem Vw.isCells {lo : Nat} {V : VK} {lk : List Us} {uv : Value} {w : World} (h : Vw lo V lk uv w) {k : Nat} (hk : VHas V uv k) : ∃ c t f,w.heap[k]? = some (.cells c t f) := by
  rcases hk with rfl | hk | hk
  · exact ⟨_,_,_,h.blk⟩
  · exact owns_isCells h.imp hk
  · exact owns_isCells h.lks hk
theorem Vw.keep {lo : Nat} {V : VK} {lk : List Us} {uv : Value} {w w' : World} (h : Vw lo V lk uv w) (hk : ∀ k,VHas V uv k → w'.heap[k]? = w.heap[k]?) : Vw lo V lk uv w' :=
  ⟨h.low,(hk _ (Or.inl rfl)).trans h.blk,owr_keep h.imp (fun k e _ => hk k (Or.inr (Or.inl e))),owr_keep h.lks (fun k e _ => hk k (Or.inr (Or.inr e))),h.n1,h.n2,h.n3⟩
theorem Vw.below {lo : Nat} {V : VK} {lk : List Us} {uv : Value} {w w' : World} (h : Vw lo V lk uv w) (hb : Below w.heap.size w w') : Vw lo V lk uv w' := h.keep fun k hk => hb.block k (h.has hk).2
theorem Vw.drew {lo : Nat} {V : VK} {lk : List Us} {uv : Value} {w : World} (h : Vw lo V lk uv w) : Vw lo V lk uv w.drew := h.below ((Below.refl _ _).drew)
theorem Vw.alloc {lo : Nat} {V : VK} {lk : List Us} {uv : Value} {w : World} (h : Vw lo V lk uv w) (o : Obj) : Vw lo V lk uv (w.alloc o) := h.below ((Below.refl _ _).alloc (Nat.le_refl _) _)
theorem Vw.set {lo : Nat} {V : VK} {lk : List Us} {uv : Value} {w : World} (h : Vw lo V lk uv w) {b : Nat} (hb : ∀ k,VHas V uv k → k ≠ b) (o : Nat) (u : Value) : Vw lo V lk uv (w.setCell ⟨b,o,none⟩ u) := h.keep fun k hk => Below.heap_setCell _ _ _ _ (hb k hk)
theorem Vw.field {lo : Nat} {V : VK} {lk : List Us} {uv : Value} {w : World} (h : Vw lo V lk uv w) :
    w.cell? ⟨V.b,0,none⟩ = some (.string ⟨V.nm.toArray⟩) ∧ w.cell? ⟨V.b,1,none⟩ = some (.pointer (some ⟨V.mb,0,none⟩)) ∧ w.cell? ⟨V.b,2,none⟩ = some V.iv ∧ w.cell? ⟨V.b,3,none⟩ = some uv := by
  refine ⟨?_,?_,?_,?_⟩ <;> rw [cell_block h.blk] <;> rfl
theorem Vw.pts {lo : Nat} {V : VK} {lk : List Us} {uv : Value} {w : World} (h : Vw lo V lk uv w) :
    ∃ io ic,V.iv = .slice io V.pts.length ic ∧ (0 < V.pts.length → ∃ ib,io = some ⟨ib,0,none⟩ ∧ ib < w.heap.size ∧ V.pts.length ≤ ic ∧ ∀ j,(hj : j < V.pts.length) → w.cell? ⟨ib,j,none⟩ = some (.pointer V.pts[j])) := by
  rcases Nat.eq_zero_or_pos V.pts.length with h0 | hpos
  · obtain ⟨o,c,e⟩ := owns_shape' h.imp
    exact ⟨o,c,e,fun hp => by omega⟩
  · obtain ⟨g,cap,cur,hv,hg1,hg2,hg3,hg4,hg5,hg6⟩ := owr_shape h.imp hpos
    have ho := h.imp
    rw [hv] at ho
    refine ⟨_,_,hv,fun _ => ⟨g,rfl,lt_of_some hg2,hg3,fun j hj => ?_⟩⟩
    rw [owns_cell ho j (by omega)]
    simp [ptrCells,hj]
structure Moved (V : VK) (uv uv' : Value) (w w' : World) : Prop where
  os : w'.os = w.os
  tape : w'.tape = w.tape
  output : w'.output = w.output
  size : w.heap.size ≤ w'.heap.size
  block : ∀ k,k < w.heap.size → k ≠ V.b → uv.ownBlock ≠ some k → w'.heap[k]? = w.heap[k]?
  own : ∀ k,uv'.ownBlock = some k → uv.ownBlock = some k ∨ w.heap.size ≤ k
theorem Moved.of_below {V : VK} {uv : Value} {w w' : World} (h : Below w.heap.size w w') : Moved V uv uv w w' := ⟨h.os,h.tape,h.output,h.size,fun k hk _ _ => h.block k hk,fun k hk => Or.inl hk⟩
theorem Moved.refl {V : VK} {uv : Value} {w : World} : Moved V uv uv w w := Moved.of_below (Below.refl _ _)
theorem Moved.trans {V : VK} {u u' u'' : Value} {a b c : World} (h : Moved V u u' a b) (k : Moved V u' u'' b c) : Moved V u u'' a c :=
  ⟨k.os.trans h.os,k.tape.trans h.tape,k.output.trans h.output,Nat.le_trans h.size k.size,
   fun i hi h1 h2 => (k.block i (Nat.lt_of_lt_of_le hi h.size) h1 (fun e => (h.own i e).elim h2 (fun e' => by omega))).trans (h.block i hi h1 h2),
   fun i hi => (k.own i hi).elim (fun e => h.own i e) (fun e => Or.inr (Nat.le_trans h.size e))⟩
theorem Moved.drew0 {V : VK} {uv uv' : Value} {w w' : World} (h : Moved V uv uv' w.drew w') : Moved V uv uv' w w' := ⟨h.os,h.tape,h.output,h.size,h.block,h.own⟩
theorem Moved.bel {lo : Nat} {V : VK} {lk : List Us} {uv uv' : Value} {w w' : World} (h : Moved V uv uv' w w') (hv : Vw lo V lk uv w) : Below lo w w' :=
  ⟨h.os,h.tape,h.output,h.size,fun k hk => h.block k (by have := hv.low; have := hv.lt; omega) (by have := hv.low; omega) (fun e => by have := (owns_block hv.lks k e).1; omega)⟩
theorem Vw.put {lo : Nat} {V : VK} {lk : List Us} {uv : Value} {w w2 : World} (h : Vw lo V lk uv w) (hg : w.grownBy w2 uv.ownBlock) (v' : Value) (l : List Us)
    (ho : w2.ownsRow lo 185 3 v' l.length (useCells l)) (hw : ∀ k,v'.ownBlock = some k → uv.ownBlock = some k ∨ w.heap.size ≤ k) :
    Moved V uv v' w (w2.setCell ⟨V.b,3,none⟩ v') ∧ Vw lo V l v' (w2.setCell ⟨V.b,3,none⟩ v') := by
  have hlt := h.lt
  have hv : v'.ownBlock ≠ some V.b := fun e => (hw _ e).elim h.n2 (fun h' => by omega)
  refine ⟨⟨hg.os,hg.tape,hg.output,by have := hg.size; simpa [World.setCell] using this,fun k hk h1 h2 => (Below.heap_setCell _ _ _ _ h1).trans (hg.block k hk (fun e => h2 e.symm)),hw⟩,⟨h.low,?_,?_,owns_set_other ho hv _ _,h.n1,hv,fun k hk e => (hw k e).elim (h.n3 k hk) (fun h' => by have := (owns_block h.imp k hk).2; omega)⟩⟩
  · rw [block_setCell ((hg.block _ hlt (fun e => h.n2 e.symm)).trans h.blk)]; rfl
  · exact owns_set_other (owr_keep h.imp fun k e l => hg.block k l (fun e' => h.n3 k e e'.symm)) h.n1 _ _
end Go.Proofs.YtpmmjkiclngpmaaGreatDoor
