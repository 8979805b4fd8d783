/- YtpmmjkiclngpmaaGreatDoorB06 -/
import Derived.Test.YtpmmjkiclngpmaaGreatDoorB05
set_option maxRecDepth 100000
set_option linter.unusedSimpArgs false
set_option linter.unusedVariables false
set_option maxHeartbeats 12800000
namespace Go.Proofs.YtpmmjkiclngpmaaGreatDoor
open Go.RowKit
structure Fr where
  f : Nat
  next : Nat
  base : Nat
structure MS where
  stack : List Int
  frames : List Fr
  fuel : Nat
  wrong : Nat
structure Fn where
  params : Nat
  slots : Nat
  code : List (Nat × Int)
def b2i (b : Bool) : Int := if b then 1 else 0
def bin2 (op : Nat) (a b : Int) : Int :=
  if op = 7 then b2i (decide (a < b)) else if op = 8 then b2i (decide (a = b)) else if op = 9 then wrap64 (a + b) else if op = 10 then wrap64 (a - b) else if op = 11 then wrap64 (a * b) else wrap64 (a.tdiv b)
def un1 (op : Nat) (a : Int) : Int := if op = 13 then wrap64 (-a) else b2i (decide (a = 0))
def frCells (fb : Nat) (x : Fr) : List Value := [.pointer (some ⟨fb,x.f * 8,none⟩),.int .i64 x.next,.int .i64 x.base]
def stCells (l : List Int) : List Value := l.reverse.map (Value.int .i64)
def fmCells (fb : Nat) (l : List Fr) : List Value := l.reverse.flatMap (frCells fb)
structure Bd where
  lo : Nat
  tb : Nat
structure Bel (B : Bd) (w w' : World) : Prop where
  bel : Below B.lo w w'
  tab : w'.heap[B.tb]? = w.heap[B.tb]?
theorem Bel.trans {B : Bd} {a b c : World} (h : Bel B a b) (k : Bel B b c) : Bel B a c := ⟨h.bel.trans k.bel,k.tab.trans h.tab⟩
structure Mc (B : Bd) (mb ib fb : Nat) (sv fv : Value) (s : MS) (w : World) : Prop where
  low : B.lo ≤ mb
  blk : w.heap[mb]? = some (.cells #[.pointer (some ⟨ib,0,none⟩),sv,fv,.int .i64 s.fuel,.int .i64 s.wrong] 136 (0,0))
  stk : w.ownsRow B.lo 3 1 sv s.stack.length (stCells s.stack)
  frm : w.ownsRow B.lo 189 3 fv s.frames.length (fmCells fb s.frames)
  ne1 : sv.ownBlock ≠ some mb
  ne2 : fv.ownBlock ≠ some mb
  ne3 : ∀ k,sv.ownBlock = some k → fv.ownBlock ≠ some k
  tlt : B.tb < w.heap.size
  nm : mb ≠ B.tb
  ns : sv.ownBlock ≠ some B.tb
  nf : fv.ownBlock ≠ some B.tb
theorem below_cell {B : Nat} {w w' : World} (h : Below B w w') {b : Nat} (hb : b < B) (o : Nat) : w'.cell? ⟨b,o,none⟩ = w.cell? ⟨b,o,none⟩ := by
  simp only [World.cell?,h.block b hb]
theorem owr_shape {w : World} {base : Nat} {e : TypeId} {size : Nat} {v : Value} {n : Nat} {xs : List Value} (h : w.ownsRow base e size v n xs) (hn : 0 < n) :
    ∃ g cap cur,v = .slice (some ⟨g,0,none⟩) n cap ∧ base ≤ g ∧ w.heap[g]? = some (.cells cur e (0,0)) ∧ n ≤ cap ∧ cap ≤ maxLen ∧ cur.size = cap * size ∧ cur.toList.take (n * size) = xs := by
  rcases h.2 with ⟨_,h0⟩ | ⟨g,cap,cur,hh⟩
  · omega
  · exact ⟨g,cap,cur,hh⟩
theorem owns_shape' {w : World} {base : Nat} {e : TypeId} {size : Nat} {v : Value} {n : Nat} {xs : List Value} (h : w.ownsRow base e size v n xs) : ∃ o c,v = .slice o n c := by
  rcases h.2 with ⟨hv,h0⟩ | ⟨g,cap,cur,hv,_⟩
  · exact ⟨none,0,by rw [hv,h0]⟩
  · exact ⟨_,_,hv⟩
theorem owns_cell {w : World} {base : Nat} {e : TypeId} {size g n cap : Nat} {xs : List Value} (h : w.ownsRow base e size (.slice (some ⟨g,0,none⟩) n cap) n xs) (j : Nat) (hj : j < n * size) :
    w.cell? ⟨g,j,none⟩ = xs[j]? := by
  rcases h.2 with ⟨h,_⟩ | ⟨g0,cap0,cur,hv,hb0,hblk,hnc,hcm,hcs,htk⟩
  · simp at h
  · simp only [Value.slice.injEq,Option.some.injEq,Addr.mk.injEq] at hv
    obtain ⟨⟨rfl,_⟩,_,rfl⟩ := hv
    rw [cell_block hblk,← htk,List.getElem?_take,if_pos hj]
    simp
theorem owns_cut {w : World} {base : Nat} {e : TypeId} {size g n cap : Nat} {xs : List Value} (h : w.ownsRow base e size (.slice (some ⟨g,0,none⟩) n cap) n xs) (m : Nat) (hm : m ≤ n) :
    w.ownsRow base e size (.slice (some ⟨g,0,none⟩) m cap) m (xs.take (m * size)) := by
  have hle : m * size ≤ n * size := Nat.mul_le_mul_right _ hm
  refine ⟨by rw [List.length_take,h.1]; omega,?_⟩
  rcases h.2 with ⟨h,_⟩ | ⟨g0,cap0,cur,hv,hb0,hblk,hnc,hcm,hcs,htk⟩
  · simp at h
  · simp only [Value.slice.injEq,Option.some.injEq,Addr.mk.injEq] at hv
    obtain ⟨⟨rfl,_⟩,_,rfl⟩ := hv
    exact Or.inr ⟨g,cap,cur,rfl,hb0,hblk,by omega,hcm,hcs,by rw [← htk,List.take_take]; congr 1; omega⟩
theorem owr_set {w : World} {base : Nat} {e : TypeId} {size g n cap : Nat} {xs : List Value} (h : w.ownsRow base e size (.slice (some ⟨g,0,none⟩) n cap) n xs) (j : Nat) (u : Value) :
    (w.setCell ⟨g,j,none⟩ u).ownsRow base e size (.slice (some ⟨g,0,none⟩) n cap) n (xs.set j u) := by
  refine ⟨by simpa using h.1,?_⟩
  rcases h.2 with ⟨h,_⟩ | ⟨g0,cap0,cur,hv,hb0,hblk,hnc,hcm,hcs,htk⟩
  · simp at h
  · simp only [Value.slice.injEq,Option.some.injEq,Addr.mk.injEq] at hv
    obtain ⟨⟨rfl,_⟩,_,rfl⟩ := hv
    refine Or.inr ⟨g,cap,_,rfl,hb0,block_setCell hblk j u,hnc,hcm,by simpa using hcs,?_⟩
    rw [← htk,Array.toList_setIfInBounds,List.take_set]
theorem owr_keep {w w' : World} {base : Nat} {e : TypeId} {size : Nat} {v : Value} {n : Nat} {xs : List Value} (h : w.ownsRow base e size v n xs) (hk : ∀ k,v.ownBlock = some k → k < w.heap.size → w'.heap[k]? = w.heap[k]?) : w'.ownsRow base e size v n xs := by
  refine ⟨h.1,?_⟩
  rcases h.2 with h | ⟨g,cap,cur,hv,hb0,hblk,rest⟩
  · exact Or.inl h
  · exact Or.inr ⟨g,cap,cur,hv,hb0,(hk g (by rw [hv]; rfl) (lt_of_some hblk)).trans hblk,rest⟩
theorem owns_block {w : World} {base : Nat} {e : TypeId} {size : Nat} {v : Value} {n : Nat} {xs : List Value} (h : w.ownsRow base e size v n xs) (k : Nat) (hk : v.ownBlock = some k) : base ≤ k ∧ k < w.heap.size := by
  rcases h.2 with ⟨hv,_⟩ | ⟨g,cap,cur,hv,hb0,hblk,rest⟩
  · rw [hv] at hk; simp [Value.ownBlock] at hk
  · rw [hv] at hk; simp [Value.ownBlock] at hk; subst hk; exact ⟨hb0,lt_of_some hblk⟩
def Went (B : Bd) (mb ib fb : Nat) (w : World) (s' : MS) (w' : World) : Prop := Bel B w w' ∧ ∃ sv fv,Mc B mb ib fb sv fv s' w'
theorem Went.trans {B : Bd} {mb ib fb : Nat} {w w1 w2 : World} {s' : MS} (h : Bel B w w1) (k : Went B mb ib fb w1 s' w2) : Went B mb ib fb w s' w2 := ⟨h.trans k.1,k.2⟩
end Go.Proofs.YtpmmjkiclngpmaaGreatDoor
namespace Go.Proofs.YtpmmjkiclngpmaaGreatDoor
open Go.RowKit
theorem owns_set_other {w : World} {base : Nat} {e : TypeId} {size : Nat} {v : Value} {n : Nat} {xs : List Value} (h : w.ownsRow base e size v n xs) {b : Nat} (hb : v.ownBlock ≠ some b) (o : Nat) (u : Value) : (w.setCell ⟨b,o,none⟩ u).ownsRow base e size v n xs :=
  owr_keep h fun k e _ => Below.heap_setCell _ _ _ _ (by intro hk; exact hb (by rw [e]; exact congrArg some hk))
theorem grown_refl (w : World) (r : Option Nat) : w.grownBy w r := ⟨rfl,rfl,rfl,Nat.le_refl _,fun _ _ _ => rfl⟩
theorem grown_alloc {w w' : World} {r : Option Nat} {o : Obj} (h : (w.alloc o).grownBy w' r) : w.grownBy w' r :=
  ⟨h.os,h.tape,h.output,by have := h.size; simp at this; omega,fun k hk hne => (h.block k (by simp; omega) hne).trans (Below.heap_alloc _ _ _ hk)⟩
end Go.Proofs.YtpmmjkiclngpmaaGreatDoor
namespace Go.Proofs.YtpmmjkiclngpmaaGreatDoor
open Go.RowKit
end Go.Proofs.YtpmmjkiclngpmaaGreatDoor
