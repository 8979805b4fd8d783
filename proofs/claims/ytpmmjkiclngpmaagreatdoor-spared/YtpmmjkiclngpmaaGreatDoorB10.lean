/- YtpmmjkiclngpmaaGreatDoorB10 -/
import Derived.Test.YtpmmjkiclngpmaaGreatDoorB08
import Derived.Test.YtpmmjkiclngpmaaGreatDoorB09
import Derived.Deep.LoopGhost
set_option maxRecDepth 100000
set_option linter.unusedSimpArgs false
set_option linter.unusedVariables false
set_option maxHeartbeats 12800000
namespace Go.Proofs.YtpmmjkiclngpmaaGreatDoor
open Go.RowKit
structure Cb where
  lo : Nat
  tb : Nat → Prop
structure Cel (B : Cb) (w w' : World) : Prop where
  bel : Below B.lo w w'
  tab : ∀ k,B.tb k → w'.heap[k]? = w.heap[k]?
theorem Cel.refl (B : Cb) (w : World) : Cel B w w := ⟨Below.refl _ _,fun _ _ => rfl⟩
theorem Cel.trans {B : Cb} {a b c : World} (h : Cel B a b) (k : Cel B b c) : Cel B a c := ⟨h.bel.trans k.bel,fun i hi => (k.tab i hi).trans (h.tab i hi)⟩
theorem Cel.drew {B : Cb} {a b : World} (h : Cel B a b) : Cel B a b.drew := ⟨h.bel.drew,h.tab⟩
theorem Cel.of {B : Cb} {w w' : World} (h : Below w.heap.size w w') (h1 : B.lo ≤ w.heap.size) (h2 : ∀ k,B.tb k → k < w.heap.size) : Cel B w w' := ⟨h.mono h1,fun k hk => h.block _ (h2 k hk)⟩
theorem cel_set {B : Cb} {a w : World} (h : Cel B a w) {b : Nat} (hb : B.lo ≤ b) (ht : ¬ B.tb b) (o : Nat) (u : Value) : Cel B a (w.setCell ⟨b,o,none⟩ u) :=
  ⟨h.bel.setCell (p := ⟨b,o,none⟩) hb u,fun k hk => (Below.heap_setCell w ⟨b,o,none⟩ u k (fun (e : k = b) => ht (by rw [← e]; exact hk))).trans (h.tab k hk)⟩
structure CK where
  c0 : Value
  c2 : Value
  c3 : Value
  c4 : Value
  c5 : Value
  c6 : Value
  V : VK
structure CS where
  scope : List (List UInt8)
  slots : Nat
  code : List (Nat × Int)
  calls : List (List UInt8 × List UInt8)
  lk : List Us
def strCells (l : List (List UInt8)) : List Value := l.map fun t => .string ⟨t.toArray⟩
def insCells (l : List (Nat × Int)) : List Value := l.flatMap fun x => [.int .i64 x.1,.int .i64 x.2]
def symCells (l : List (List UInt8 × List UInt8)) : List Value := l.flatMap fun x => [.string ⟨x.1.toArray⟩,.string ⟨x.2.toArray⟩]
theorem insCells_snoc (l : List (Nat × Int)) (x : Nat × Int) : insCells (l ++ [x]) = insCells l ++ [.int .i64 x.1,.int .i64 x.2] := by simp [insCells]
theorem strCells_snoc (l : List (List UInt8)) (x : List UInt8) : strCells (l ++ [x]) = strCells l ++ [.string ⟨x.toArray⟩] := by simp [strCells]
theorem symCells_snoc (l : List (List UInt8 × List UInt8)) (x : List UInt8 × List UInt8) : symCells (l ++ [x]) = symCells l ++ [.string ⟨x.1.toArray⟩,.string ⟨x.2.toArray⟩] := by simp [symCells]
structure Cd (B : Cb) (cb : Nat) (C : CK) (s : CS) (sv kv lv : Value) (w : World) : Prop where
  low : B.lo ≤ cb
  blk : w.heap[cb]? = some (.cells #[C.c0,sv,C.c2,C.c3,C.c4,C.c5,C.c6,.int .i64 s.slots,kv,lv] 308 (0,0))
  sco : w.ownsRow B.lo 9 1 sv s.scope.length (strCells s.scope)
  cod : w.ownsRow B.lo 196 2 kv s.code.length (insCells s.code)
  cal : w.ownsRow B.lo 87 2 lv s.calls.length (symCells s.calls)
  n1 : sv.ownBlock ≠ some cb
  n2 : kv.ownBlock ≠ some cb
  n3 : lv.ownBlock ≠ some cb
  d1 : ∀ k,sv.ownBlock = some k → kv.ownBlock ≠ some k
  d2 : ∀ k,sv.ownBlock = some k → lv.ownBlock ≠ some k
  d3 : ∀ k,kv.ownBlock = some k → lv.ownBlock ≠ some k
  tlt : ∀ k,B.tb k → k < w.heap.size
  nm : ¬ B.tb cb
  t1 : ∀ k,sv.ownBlock = some k → ¬ B.tb k
  t2 : ∀ k,kv.ownBlock = some k → ¬ B.tb k
  t3 : ∀ k,lv.ownBlock = some k → ¬ B.tb k
  vw : ∃ uv,Vw B.lo C.V s.lk uv w ∧ ∀ k,VHas C.V uv k → k ≠ cb ∧ sv.ownBlock ≠ some k ∧ kv.ownBlock ≠ some k ∧ lv.ownBlock ≠ some k ∧ (k = C.V.b ∨ uv.ownBlock = some k → ¬ B.tb k)
theorem Cd.lt {B : Cb} {cb : Nat} {C : CK} {s : CS} {sv kv lv : Value} {w : World} (h : Cd B cb C s sv kv lv w) : cb < w.heap.size := lt_of_some h.blk
theorem Cd.below {B : Cb} {cb : Nat} {C : CK} {s : CS} {sv kv lv : Value} {w w' : World} (h : Cd B cb C s sv kv lv w) (hb : Below w.heap.size w w') : Cd B cb C s sv kv lv w' :=
  ⟨h.low,(hb.block _ h.lt).trans h.blk,owr_keep h.sco (fun k _ l => hb.block k l),owr_keep h.cod (fun k _ l => hb.block k l),owr_keep h.cal (fun k _ l => hb.block k l),h.n1,h.n2,h.n3,h.d1,h.d2,h.d3,fun k hk => Nat.lt_of_lt_of_le (h.tlt k hk) hb.size,h.nm,h.t1,h.t2,h.t3,by obtain ⟨uv,hv,hd⟩ := h.vw; exact ⟨uv,hv.below hb,hd⟩⟩
theorem Cd.alloc {B : Cb} {cb : Nat} {C : CK} {s : CS} {sv kv lv : Value} {w : World} (h : Cd B cb C s sv kv lv w) (o : Obj) : Cd B cb C s sv kv lv (w.alloc o) := h.below ((Below.refl _ _).alloc (Nat.le_refl _) _)
theorem Cd.drew {B : Cb} {cb : Nat} {C : CK} {s : CS} {sv kv lv : Value} {w : World} (h : Cd B cb C s sv kv lv w) : Cd B cb C s sv kv lv w.drew := h.below ((Below.refl _ _).drew)
theorem Cd.field {B : Cb} {cb : Nat} {C : CK} {s : CS} {sv kv lv : Value} {w : World} (h : Cd B cb C s sv kv lv w) :
    w.cell? ⟨cb,0,none⟩ = some C.c0 ∧ w.cell? ⟨cb,1,none⟩ = some sv ∧ w.cell? ⟨cb,7,none⟩ = some (.int .i64 s.slots) ∧ w.cell? ⟨cb,8,none⟩ = some kv ∧ w.cell? ⟨cb,9,none⟩ = some lv := by
  refine ⟨?_,?_,?_,?_,?_⟩ <;> rw [cell_block h.blk] <;> rfl
theorem Cd.putScope {B : Cb} {cb : Nat} {C : CK} {s : CS} {sv kv lv : Value} {w w2 : World} (h : Cd B cb C s sv kv lv w) (hg : w.grownBy w2 sv.ownBlock) (v' : Value) (l : List (List UInt8))
    (ho : w2.ownsRow B.lo 9 1 v' l.length (strCells l)) (hw : ∀ k,v'.ownBlock = some k → sv.ownBlock = some k ∨ w.heap.size ≤ k) :
    Cel B w (w2.setCell ⟨cb,1,none⟩ v') ∧ Cd B cb C { s with scope := l } v' kv lv (w2.setCell ⟨cb,1,none⟩ v') := by
  have hmb := h.lt
  have hlow := h.low
  have hown := h.sco
  have htb : ∀ k,sv.ownBlock = some k → ¬ B.tb k := by first | exact h.t1 | exact h.t2 | exact h.t3
  have hbl : Cel B w w2 := ⟨⟨hg.os,hg.tape,hg.output,hg.size,fun k hk => hg.block k (by omega) (fun e => by have := (owns_block hown k e.symm).1; omega)⟩,fun k hk => hg.block _ (h.tlt k hk) (fun e => htb k e.symm hk)⟩
  have hvt : ∀ k,v'.ownBlock = some k → ¬ B.tb k := fun k e hk => (hw _ e).elim (fun h' => htb k h' hk) (fun h' => by have := h.tlt k hk; omega)
  have hne : sv.ownBlock ≠ some cb := by first | exact h.n1 | exact h.n2 | exact h.n3
  have hv : v'.ownBlock ≠ some cb := fun e => (hw _ e).elim (fun h' => hne h') (fun h' => by omega)
  have oth : ∀ (k : Nat),k < w.heap.size → sv.ownBlock ≠ some k → w2.heap[k]? = w.heap[k]? := fun k hk e => hg.block k hk (fun e' => e e'.symm)
  have b1 := owns_block h.sco
  have b2 := owns_block h.cod
  have b3 := owns_block h.cal
  have d1 := h.d1
  have d2 := h.d2
  have d3 := h.d3
  refine ⟨cel_set hbl hlow h.nm _ _,⟨hlow,?_,?_,?_,?_,?_,?_,?_,?_,?_,?_,fun k hk => (by have := hg.size; have := h.tlt k hk; simp [World.setCell]; omega),h.nm,by first | exact hvt | exact h.t1,by first | exact hvt | exact h.t2,by first | exact hvt | exact h.t3,?_⟩⟩
  · rw [block_setCell ((oth _ hmb hne).trans h.blk)]; rfl
  · first
    | exact owns_set_other ho hv _ _
    | exact owns_set_other (owr_keep h.sco fun k e l => oth k l (by intro e'; first | exact d1 k e e' | exact d2 k e e' | exact d3 k e e')) h.n1 _ _
  · first
    | exact owns_set_other ho hv _ _
    | exact owns_set_other (owr_keep h.cod fun k e l => oth k l (by intro e'; first | exact d1 k e' e | exact d3 k e e' | exact d2 k e e')) h.n2 _ _
  · first
    | exact owns_set_other ho hv _ _
    | exact owns_set_other (owr_keep h.cal fun k e l => oth k l (by intro e'; first | exact d2 k e' e | exact d3 k e' e)) h.n3 _ _
  · first | exact hv | exact h.n1
  · first | exact hv | exact h.n2
  · first | exact hv | exact h.n3
  · first
    | exact d1
    | exact fun k e e2 => (hw k e).elim (fun h' => d1 k h' e2) (fun h' => by have := (b2 k e2).2; omega)
    | exact fun k e e2 => (hw k e2).elim (fun h' => d1 k e h') (fun h' => by have := (b1 k e).2; omega)
  · first
    | exact d2
    | exact fun k e e2 => (hw k e).elim (fun h' => d2 k h' e2) (fun h' => by have := (b3 k e2).2; omega)
    | exact fun k e e2 => (hw k e2).elim (fun h' => d2 k e h') (fun h' => by have := (b1 k e).2; omega)
  · first
    | exact d3
    | exact fun k e e2 => (hw k e).elim (fun h' => d3 k h' e2) (fun h' => by have := (b3 k e2).2; omega)
    | exact fun k e e2 => (hw k e2).elim (fun h' => d3 k e h') (fun h' => by have := (b2 k e).2; omega)
  · obtain ⟨uv,hu,hd⟩ := h.vw
    have hvk : ∀ k,VHas C.V uv k → sv.ownBlock ≠ some k := fun k hk => by first | exact (hd k hk).2.1 | exact (hd k hk).2.2.1 | exact (hd k hk).2.2.2.1
    have hnew : ∀ k,VHas C.V uv k → v'.ownBlock ≠ some k := fun k hk e => (hw k e).elim (hvk k hk) (fun e' => by have := (hu.has hk).2; omega)
    exact ⟨uv,(hu.keep (fun k hk => oth k (hu.has hk).2 (hvk k hk))).set (fun k hk => (hd k hk).1) _ _,fun k hk => ⟨(hd k hk).1,by first | exact hnew k hk | exact (hd k hk).2.1,by first | exact hnew k hk | exact (hd k hk).2.2.1,by first | exact hnew k hk | exact (hd k hk).2.2.2.1,(hd k hk).2.2.2.2⟩⟩
theorem Cd.putCode {B : Cb} {cb : Nat} {C : CK} {s : CS} {sv kv lv : Value} {w w2 : World} (h : Cd B cb C s sv kv lv w) (hg : w.grownBy w2 kv.ownBlock) (v' : Value) (l : List (Nat × Int))
    (ho : w2.ownsRow B.lo 196 2 v' l.length (insCells l)) (hw : ∀ k,v'.ownBlock = some k → kv.ownBlock = some k ∨ w.heap.size ≤ k) :
    Cel B w (w2.setCell ⟨cb,8,none⟩ v') ∧ Cd B cb C { s with code := l } sv v' lv (w2.setCell ⟨cb,8,none⟩ v') := by
  have hmb := h.lt
  have hlow := h.low
  have hown := h.cod
  have htb : ∀ k,kv.ownBlock = some k → ¬ B.tb k := by first | exact h.t1 | exact h.t2 | exact h.t3
  have hbl : Cel B w w2 := ⟨⟨hg.os,hg.tape,hg.output,hg.size,fun k hk => hg.block k (by omega) (fun e => by have := (owns_block hown k e.symm).1; omega)⟩,fun k hk => hg.block _ (h.tlt k hk) (fun e => htb k e.symm hk)⟩
  have hvt : ∀ k,v'.ownBlock = some k → ¬ B.tb k := fun k e hk => (hw _ e).elim (fun h' => htb k h' hk) (fun h' => by have := h.tlt k hk; omega)
  have hne : kv.ownBlock ≠ some cb := by first | exact h.n1 | exact h.n2 | exact h.n3
  have hv : v'.ownBlock ≠ some cb := fun e => (hw _ e).elim (fun h' => hne h') (fun h' => by omega)
  have oth : ∀ (k : Nat),k < w.heap.size → kv.ownBlock ≠ some k → w2.heap[k]? = w.heap[k]? := fun k hk e => hg.block k hk (fun e' => e e'.symm)
  have b1 := owns_block h.sco
  have b2 := owns_block h.cod
  have b3 := owns_block h.cal
  have d1 := h.d1
  have d2 := h.d2
  have d3 := h.d3
  refine ⟨cel_set hbl hlow h.nm _ _,⟨hlow,?_,?_,?_,?_,?_,?_,?_,?_,?_,?_,fun k hk => (by have := hg.size; have := h.tlt k hk; simp [World.setCell]; omega),h.nm,by first | exact hvt | exact h.t1,by first | exact hvt | exact h.t2,by first | exact hvt | exact h.t3,?_⟩⟩
  · rw [block_setCell ((oth _ hmb hne).trans h.blk)]; rfl
  · first
    | exact owns_set_other ho hv _ _
    | exact owns_set_other (owr_keep h.sco fun k e l => oth k l (by intro e'; first | exact d1 k e e' | exact d2 k e e' | exact d3 k e e')) h.n1 _ _
  · first
    | exact owns_set_other ho hv _ _
    | exact owns_set_other (owr_keep h.cod fun k e l => oth k l (by intro e'; first | exact d1 k e' e | exact d3 k e e' | exact d2 k e e')) h.n2 _ _
  · first
    | exact owns_set_other ho hv _ _
    | exact owns_set_other (owr_keep h.cal fun k e l => oth k l (by intro e'; first | exact d2 k e' e | exact d3 k e' e)) h.n3 _ _
  · first | exact hv | exact h.n1
  · first | exact hv | exact h.n2
  · first | exact hv | exact h.n3
  · first
    | exact d1
    | exact fun k e e2 => (hw k e).elim (fun h' => d1 k h' e2) (fun h' => by have := (b2 k e2).2; omega)
    | exact fun k e e2 => (hw k e2).elim (fun h' => d1 k e h') (fun h' => by have := (b1 k e).2; omega)
  · first
    | exact d2
    | exact fun k e e2 => (hw k e).elim (fun h' => d2 k h' e2) (fun h' => by have := (b3 k e2).2; omega)
    | exact fun k e e2 => (hw k e2).elim (fun h' => d2 k e h') (fun h' => by have := (b1 k e).2; omega)
  · first
    | exact d3
    | exact fun k e e2 => (hw k e).elim (fun h' => d3 k h' e2) (fun h' => by have := (b3 k e2).2; omega)
    | exact fun k e e2 => (hw k e2).elim (fun h' => d3 k e h') (fun h' => by have := (b2 k e).2; omega)
  · obtain ⟨uv,hu,hd⟩ := h.vw
    have hvk : ∀ k,VHas C.V uv k → kv.ownBlock ≠ some k := fun k hk => by first | exact (hd k hk).2.1 | exact (hd k hk).2.2.1 | exact (hd k hk).2.2.2.1
    have hnew : ∀ k,VHas C.V uv k → v'.ownBlock ≠ some k := fun k hk e => (hw k e).elim (hvk k hk) (fun e' => by have := (hu.has hk).2; omega)
    exact ⟨uv,(hu.keep (fun k hk => oth k (hu.has hk).2 (hvk k hk))).set (fun k hk => (hd k hk).1) _ _,fun k hk => ⟨(hd k hk).1,by first | exact hnew k hk | exact (hd k hk).2.1,by first | exact hnew k hk | exact (hd k hk).2.2.1,by first | exact hnew k hk | exact (hd k hk).2.2.2.1,(hd k hk).2.2.2.2⟩⟩
theorem Cd.putCalls {B : Cb} {cb : Nat} {C : CK} {s : CS} {sv kv lv : Value} {w w2 : World} (h : Cd B cb C s sv kv lv w) (hg : w.grownBy w2 lv.ownBlock) (v' : Value) (l : List (List UInt8 × List UInt8))
    (ho : w2.ownsRow B.lo 87 2 v' l.length (symCells l)) (hw : ∀ k,v'.ownBlock = some k → lv.ownBlock = some k ∨ w.heap.size ≤ k) :
    Cel B w (w2.setCell ⟨cb,9,none⟩ v') ∧ Cd B cb C { s with calls := l } sv kv v' (w2.setCell ⟨cb,9,none⟩ v') := by
  have hmb := h.lt
  have hlow := h.low
  have hown := h.cal
  have htb : ∀ k,lv.ownBlock = some k → ¬ B.tb k := by first | exact h.t1 | exact h.t2 | exact h.t3
  have hbl : Cel B w w2 := ⟨⟨hg.os,hg.tape,hg.output,hg.size,fun k hk => hg.block k (by omega) (fun e => by have := (owns_block hown k e.symm).1; omega)⟩,fun k hk => hg.block _ (h.tlt k hk) (fun e => htb k e.symm hk)⟩
  have hvt : ∀ k,v'.ownBlock = some k → ¬ B.tb k := fun k e hk => (hw _ e).elim (fun h' => htb k h' hk) (fun h' => by have := h.tlt k hk; omega)
  have hne : lv.ownBlock ≠ some cb := by first | exact h.n1 | exact h.n2 | exact h.n3
  have hv : v'.ownBlock ≠ some cb := fun e => (hw _ e).elim (fun h' => hne h') (fun h' => by omega)
  have oth : ∀ (k : Nat),k < w.heap.size → lv.ownBlock ≠ some k → w2.heap[k]? = w.heap[k]? := fun k hk e => hg.block k hk (fun e' => e e'.symm)
  have b1 := owns_block h.sco
  have b2 := owns_block h.cod
  have b3 := owns_block h.cal
  have d1 := h.d1
  have d2 := h.d2
  have d3 := h.d3
  refine ⟨cel_set hbl hlow h.nm _ _,⟨hlow,?_,?_,?_,?_,?_,?_,?_,?_,?_,?_,fun k hk => (by have := hg.size; have := h.tlt k hk; simp [World.setCell]; omega),h.nm,by first | exact hvt | exact h.t1,by first | exact hvt | exact h.t2,by first | exact hvt | exact h.t3,?_⟩⟩
  · rw [block_setCell ((oth _ hmb hne).trans h.blk)]; rfl
  · first
    | exact owns_set_other ho hv _ _
    | exact owns_set_other (owr_keep h.sco fun k e l => oth k l (by intro e'; first | exact d1 k e e' | exact d2 k e e' | exact d3 k e e')) h.n1 _ _
  · first
    | exact owns_set_other ho hv _ _
    | exact owns_set_other (owr_keep h.cod fun k e l => oth k l (by intro e'; first | exact d1 k e' e | exact d3 k e e' | exact d2 k e e')) h.n2 _ _
  · first
    | exact owns_set_other ho hv _ _
    | exact owns_set_other (owr_keep h.cal fun k e l => oth k l (by intro e'; first | exact d2 k e' e | exact d3 k e' e)) h.n3 _ _
  · first | exact hv | exact h.n1
  · first | exact hv | exact h.n2
  · first | exact hv | exact h.n3
  · first
    | exact d1
    | exact fun k e e2 => (hw k e).elim (fun h' => d1 k h' e2) (fun h' => by have := (b2 k e2).2; omega)
    | exact fun k e e2 => (hw k e2).elim (fun h' => d1 k e h') (fun h' => by have := (b1 k e).2; omega)
  · first
    | exact d2
    | exact fun k e e2 => (hw k e).elim (fun h' => d2 k h' e2) (fun h' => by have := (b3 k e2).2; omega)
    | exact fun k e e2 => (hw k e2).elim (fun h' => d2 k e h') (fun h' => by have := (b1 k e).2; omega)
  · first
    | exact d3
    | exact fun k e e2 => (hw k e).elim (fun h' => d3 k h' e2) (fun h' => by have := (b3 k e2).2; omega)
    | exact fun k e e2 => (hw k e2).elim (fun h' => d3 k e h') (fun h' => by have := (b2 k e).2; omega)
  · obtain ⟨uv,hu,hd⟩ := h.vw
    have hvk : ∀ k,VHas C.V uv k → lv.ownBlock ≠ some k := fun k hk => by first | exact (hd k hk).2.1 | exact (hd k hk).2.2.1 | exact (hd k hk).2.2.2.1
    have hnew : ∀ k,VHas C.V uv k → v'.ownBlock ≠ some k := fun k hk e => (hw k e).elim (hvk k hk) (fun e' => by have := (hu.has hk).2; omega)
    exact ⟨uv,(hu.keep (fun k hk => oth k (hu.has hk).2 (hvk k hk))).set (fun k hk => (hd k hk).1) _ _,fun k hk => ⟨(hd k hk).1,by first | exact hnew k hk | exact (hd k hk).2.1,by first | exact hnew k hk | exact (hd k hk).2.2.1,by first | exact hnew k hk | exact (hd k hk).2.2.2.1,(hd k hk).2.2.2.2⟩⟩
theorem Cd.putSlots {B : Cb} {cb : Nat} {C : CK} {s : CS} {sv kv lv : Value} {w : World} (h : Cd B cb C s sv kv lv w) (n : Nat) (v : Int) (hv : v = n) :
    Cel B w (w.setCell ⟨cb,7,none⟩ (.int .i64 v)) ∧ Cd B cb C { s with slots := n } sv kv lv (w.setCell ⟨cb,7,none⟩ (.int .i64 v)) := by
  refine ⟨cel_set (Cel.refl _ _) h.low h.nm _ _,⟨h.low,?_,owns_set_other h.sco h.n1 _ _,owns_set_other h.cod h.n2 _ _,owns_set_other h.cal h.n3 _ _,h.n1,h.n2,h.n3,h.d1,h.d2,h.d3,fun k hk => (by have := h.tlt k hk; simpa [World.setCell] using this),h.nm,h.t1,h.t2,h.t3,by obtain ⟨uv,hu,hd⟩ := h.vw; exact ⟨uv,hu.set (fun k hk => (hd k hk).1) _ _,hd⟩⟩⟩
  rw [block_setCell h.blk,hv]; rfl
def CS.saw (s : CS) (u : List Us) : CS := { s with lk := s.lk ++ u }
theorem Cd.found {B : Cb} {cb : Nat} {C : CK} {s : CS} {sv kv lv : Value} {w w' : World} (h : Cd B cb C s sv kv lv w) {uv uv' : Value} (hv : Vw B.lo C.V s.lk uv w) (hd : ∀ k,VHas C.V uv k → k ≠ cb ∧ sv.ownBlock ≠ some k ∧ kv.ownBlock ≠ some k ∧ lv.ownBlock ≠ some k ∧ (k = C.V.b ∨ uv.ownBlock = some k → ¬ B.tb k)) {u : List Us} (hm : Moved C.V uv uv' w w') (hv' : Vw B.lo C.V (s.lk ++ u) uv' w') :
    Cel B w w' ∧ Cd B cb C (s.saw u) sv kv lv w' := by
  have hlt := h.lt
  have key : ∀ k,k < w.heap.size → (k = C.V.b ∨ uv.ownBlock = some k → False) → w'.heap[k]? = w.heap[k]? := fun k hk e => hm.block k hk (fun e' => e (Or.inl e')) (fun e' => e (Or.inr e'))
  have hin : ∀ k,(k = C.V.b ∨ uv.ownBlock = some k) → VHas C.V uv k := fun k e => e.elim Or.inl (fun e => Or.inr (Or.inr e))
  refine ⟨⟨hm.bel hv,fun k hk => key k (h.tlt k hk) (fun e => (hd k (hin k e)).2.2.2.2 e hk)⟩,⟨h.low,(key _ hlt (fun e => (hd _ (hin _ e)).1 rfl)).trans h.blk,owr_keep h.sco (fun k e l => key k l (fun e' => (hd k (hin k e')).2.1 e)),owr_keep h.cod (fun k e l => key k l (fun e' => (hd k (hin k e')).2.2.1 e)),owr_keep h.cal (fun k e l => key k l (fun e' => (hd k (hin k e')).2.2.2.1 e)),h.n1,h.n2,h.n3,h.d1,h.d2,h.d3,fun k hk => Nat.lt_of_lt_of_le (h.tlt k hk) hm.size,h.nm,h.t1,h.t2,h.t3,uv',hv',fun k hk => ?_⟩⟩
  have new : w.heap.size ≤ k → k ≠ cb ∧ sv.ownBlock ≠ some k ∧ kv.ownBlock ≠ some k ∧ lv.ownBlock ≠ some k ∧ (k = C.V.b ∨ uv'.ownBlock = some k → ¬ B.tb k) := fun e =>
    ⟨by omega,fun e' => by have := (owns_block h.sco k e').2; omega,fun e' => by have := (owns_block h.cod k e').2; omega,fun e' => by have := (owns_block h.cal k e').2; omega,fun _ hk => by have := h.tlt k hk; omega⟩
  have old : VHas C.V uv k → k ≠ cb ∧ sv.ownBlock ≠ some k ∧ kv.ownBlock ≠ some k ∧ lv.ownBlock ≠ some k ∧ (k = C.V.b ∨ uv'.ownBlock = some k → ¬ B.tb k) := fun e => by
    obtain ⟨a,b,c,d,f⟩ := hd k e
    exact ⟨a,b,c,d,fun e' => e'.elim (fun e' => f (Or.inl e')) (fun e' => (hm.own k e').elim (fun e'' => f (Or.inr e'')) (fun e'' hk => by have := h.tlt k hk; omega))⟩
  rcases hk with hk | hk | hk
  · exact old (Or.inl hk)
  · exact old (Or.inr (Or.inl hk))
  · exact (hm.own k hk).elim (fun e => old (Or.inr (Or.inr e))) new
def Wrote (B : Cb) (cb : Nat) (C : CK) (w : World) (s' : CS) (w' : World) : Prop := Cel B w w' ∧ ∃ sv kv lv,Cd B cb C s' sv kv lv w'
theorem Wrote.mk {B : Cb} {cb : Nat} {C : CK} {w : World} {s' : CS} {w' : World} {sv kv lv : Value} (h : Cel B w w' ∧ Cd B cb C s' sv kv lv w') : Wrote B cb C w s' w' := ⟨h.1,_,_,_,h.2⟩
theorem Wrote.trans {B : Cb} {cb : Nat} {C : CK} {w w1 w2 : World} {s' : CS} (h : Cel B w w1) (k : Wrote B cb C w1 s' w2) : Wrote B cb C w s' w2 := ⟨h.trans k.1,k.2⟩
end Go.Proofs.YtpmmjkiclngpmaaGreatDoor
namespace Go.Proofs.YtpmmjkiclngpmaaGreatDoor
open Go.RowKit
theorem info_ins : (Tryz.prog.info? 196).map (fun i => (i.zero,i.size,i.bytes)) = some (some (.agg #[.int .i64 0,.int .i64 0]),2,16) := by kernel_rfl
theorem info_str : (Tryz.prog.info? 9).map (fun i => (i.zero,i.size,i.bytes)) = some (some (.string ⟨#[]⟩),1,16) := by kernel_rfl
theorem info_sym : (Tryz.prog.info? 87).map (fun i => (i.zero,i.size,i.bytes)) = some (some (.agg #[.string ⟨#[]⟩,.string ⟨#[]⟩]),2,32) := by kernel_rfl
theorem new2_cells (w : World) (a b : Value) (t : TypeId) : ∀ j u,[a,b][j]? = some u → (w.alloc (.cells #[a,b] t)).cell? ((⟨w.heap.size,0,none⟩ : Addr).add j) = some u := by
  intro j u hj
  match j,hj with
  | 0,hj => simp at hj; subst hj; simp [Addr.add]
  | 1,hj => simp at hj; subst hj; simp [Addr.add]
theorem new1_cells (w : World) (a : Value) (t : TypeId) : ∀ j u,[a][j]? = some u → (w.alloc (.cells #[a] t)).cell? ((⟨w.heap.size,0,none⟩ : Addr).add j) = some u := by
  intro j u hj
  match j,hj with
  | 0,hj => simp at hj; subst hj; simp [Addr.add]
theorem own_of_slice {g n c : Nat} {r : Option Nat} {m : Nat} (h : r = some g ∨ m ≤ g) : ∀ k,(Value.slice (some ⟨g,0,none⟩) n c).ownBlock = some k → r = some k ∨ m ≤ k := by
  intro k e
  simp only [Value.ownBlock,Option.some.injEq] at e
  subst e; exact h
theorem emit_any (B : Cb) (cb : Nat) (C : CK) (s : CS) (sv kv lv : Value) (w : World) (h : Cd B cb C s sv kv lv w) (op : Nat) (v : Int) (hl : s.code.length ≤ 1000000) :
    Calls Tryz.prog 180 #[.pointer (some ⟨cb,0,none⟩),.int .i64 op,.int .i64 v] w fun e w' =>
      e = .returned (.int .i64 s.code.length) ∧ Wrote B cb C w { s with code := s.code ++ [(op,v)] } w' := by
  have h1 := h.lt
  have h2 := h.low
  obtain ⟨f0,f1,f7,f8,f9⟩ := h.field
  have g0 := free_block h.blk
  have HM := hide h
  clear h
  obtain ⟨i0,hi,hz0,hz1,hz2⟩ := info_parts info_ins
  obtain ⟨so,sc,rfl⟩ := owns_shape' HM.out.cod
  go_enter Tryz.func180,Tryz.ntmps180
  go_wp2_with (at_builtin; refine app_where _ rfl _ _ 89 rfl B.lo 196 i0 (.agg #[.int .i64 0,.int .i64 0]) 2 16 Tryz.underlying89 hi hz0 hz1 hz2 rfl (by decide) _ _ _ rfl (HM.out.alloc _).cod ⟨w.heap.size,0,none⟩ 1 1 [.int .i64 op,.int .i64 v] rfl rfl (new2_cells w _ _ _) ?c2 (by decide) ?c3 ?c4 ?c5 ?_)
  case c2 => intro u hu; simp at hu; rcases hu with rfl | rfl <;> rfl
  case c3 => unfold maxLen; omega
  case c4 => omega
  case c5 => first | omega | (simp; omega)
  intro g' cap' w2 hown hgrow hwhere
  have HB := hide (HM.out.putCode (grown_alloc hgrow) (.slice (some ⟨g',0,none⟩) (s.code.length + 1) cap') (s.code ++ [(op,v)]) (by rw [insCells_snoc,List.length_append]; exact hown) (fun k e => (own_of_slice hwhere k e).imp id (fun h => by first | omega | (simp at h; omega))))
  have hmk := ((grown_alloc hgrow).block _ h1 (fun e => HM.out.n2 e.symm)).trans HM.out.blk
  have k8 := cell_block hmk 8
  have kf := free_block hmk
  have hs2 := lt_of_some hmk
  simp at k8
  clear hown hgrow hwhere hmk
  go_wp2
  go_ret
  exact ⟨ret_int (by omega),Wrote.mk HB.out⟩
theorem enter_any (B : Cb) (cb : Nat) (C : CK) (s : CS) (sv kv lv : Value) (w : World) (h : Cd B cb C s sv kv lv w) (name : List UInt8) (hl : s.scope.length ≤ 1000000) (hs : s.slots ≤ 1000000) :
    Calls Tryz.prog 178 #[.pointer (some ⟨cb,0,none⟩),.string ⟨name.toArray⟩] w fun e w' =>
      e = .returned (.int .i64 s.scope.length) ∧ Wrote B cb C w { s with scope := s.scope ++ [name],slots := max s.slots (s.scope.length + 1) } w' := by
  have h1 := h.lt
  have h2 := h.low
  obtain ⟨f0,f1,f7,f8,f9⟩ := h.field
  have g0 := free_block h.blk
  have HM := hide h
  clear h
  obtain ⟨i0,hi,hz0,hz1,hz2⟩ := info_parts info_str
  obtain ⟨so,sc,rfl⟩ := owns_shape' HM.out.sco
  go_enter Tryz.func178,Tryz.ntmps178
  go_wp2_with (at_builtin; refine app_where _ rfl _ _ 58 rfl B.lo 9 i0 (.string ⟨#[]⟩) 1 16 Tryz.underlying58 hi hz0 hz1 hz2 rfl (by decide) _ _ _ rfl (HM.out.alloc _).sco ⟨w.heap.size,0,none⟩ 1 1 [.string ⟨name.toArray⟩] rfl rfl (new1_cells w _ _) ?c2 (by decide) ?c3 ?c4 ?c5 ?_)
  case c2 => intro u hu; simp at hu; subst hu; rfl
  case c3 => unfold maxLen; omega
  case c4 => omega
  case c5 => first | omega | (simp; omega)
  intro g' cap' w2 hown hgrow hwhere
  have HB := hide (HM.out.putScope (grown_alloc hgrow) (.slice (some ⟨g',0,none⟩) (s.scope.length + 1) cap') (s.scope ++ [name]) (by rw [strCells_snoc,List.length_append]; exact hown) (fun k e => (own_of_slice hwhere k e).imp id (fun h => by first | omega | (simp at h; omega))))
  have hmk := ((grown_alloc hgrow).block _ h1 (fun e => HM.out.n1 e.symm)).trans HM.out.blk
  have k1 := cell_block hmk 1
  have k7 := cell_block hmk 7
  have kf := free_block hmk
  have hs2 := lt_of_some hmk
  simp at k1 k7
  clear hown hgrow hwhere hmk f0 f1 f7 f8 f9 g0
  go_wp2_with fail
  generalize hw3 : w2.setCell ⟨cb,1,none⟩ (.slice (some ⟨g',0,none⟩) (s.scope.length + 1) cap') = w3 at HB ⊢
  have HB3 := hide HB.out.1
  have HM3 := hide HB.out.2
  clear hw3 HB k1 k7 kf
  obtain ⟨f0,f1,f7,f8,f9⟩ := HM3.out.field
  have g0 := free_block HM3.out.blk
  have h3 := HM3.out.lt
  rcases Nat.lt_or_ge s.slots (s.scope.length + 1) with hlt | hge
  · have HP := hide (HM3.out.putSlots (s.scope.length + 1) ((s.scope.length : Int) + 1) (by omega))
    have HX := hide (show max s.slots (s.scope.length + 1) = s.scope.length + 1 by omega)
    simp only at f7
    have q1 : (s.slots : Int) < (s.scope.length : Int) + 1 := by omega
    have q2 : ¬ (s.scope.length : Int) + 1 < (s.slots : Int) := by omega
    have q3 : max (s.slots : Int) ((s.scope.length : Int) + 1) = (s.scope.length : Int) + 1 := by omega
    go_region
    all_goals
      (try go_wp2)
      go_ret
      exact ⟨ret_int (by omega),by first | exact Wrote.mk ⟨HB3.out.trans HP.out.1.drew,HP.out.2.drew⟩ | (rw [HX.out]; exact Wrote.mk ⟨HB3.out.trans HP.out.1.drew,HP.out.2.drew⟩)⟩
  · have HP := hide (HM3.out.putSlots s.slots (s.slots : Int) rfl)
    have HX := hide (show max s.slots (s.scope.length + 1) = s.slots by omega)
    simp only at f7
    have q1 : ¬ (s.slots : Int) < (s.scope.length : Int) + 1 := by omega
    have q3 : max (s.slots : Int) ((s.scope.length : Int) + 1) = (s.slots : Int) := by omega
    go_region
    all_goals
      (try go_wp2)
      go_ret
      exact ⟨ret_int (by omega),by first | exact Wrote.mk ⟨HB3.out.trans HP.out.1.drew,HP.out.2.drew⟩ | (rw [HX.out]; exact Wrote.mk ⟨HB3.out.trans HP.out.1.drew,HP.out.2.drew⟩)⟩
theorem insCells_at (l : List (Nat × Int)) (j : Nat) (hj : j < l.length) : (insCells l)[j * 2]? = some (.int .i64 l[j].1) ∧ (insCells l)[j * 2 + 1]? = some (.int .i64 l[j].2) := by
  induction l generalizing j with
  | nil => simp at hj
  | cons x r ih =>
    rw [show insCells (x :: r) = .int .i64 x.1 :: .int .i64 x.2 :: insCells r from rfl]
    cases j with
    | zero => exact ⟨rfl,rfl⟩
    | succ j =>
      have := ih j (by simpa using hj)
      rw [show (j + 1) * 2 = j * 2 + 1 + 1 by omega]
      simpa using this
theorem insCells_set (l : List (Nat × Int)) (j : Nat) (hj : j < l.length) (v : Int) : (insCells l).set (j * 2 + 1) (.int .i64 v) = insCells (l.set j (l[j].1,v)) := by
  induction l generalizing j with
  | nil => simp at hj
  | cons x r ih =>
    rw [show insCells (x :: r) = .int .i64 x.1 :: .int .i64 x.2 :: insCells r from rfl]
    cases j with
    | zero => rfl
    | succ j =>
      have := ih j (by simpa using hj)
      rw [show (j + 1) * 2 = j * 2 + 1 + 1 by omega]
      simp only [List.set_cons_succ,List.getElem_cons_succ,this]
      rfl
theorem Cd.setCode {B : Cb} {cb d n dc : Nat} {C : CK} {s : CS} {sv lv : Value} {w : World} (h : Cd B cb C s sv (.slice (some ⟨d,0,none⟩) n dc) lv w) (j : Nat) (hj : j < s.code.length) (v : Int) :
    Cel B w (w.setCell ⟨d,j * 2 + 1,none⟩ (.int .i64 v)) ∧ Cd B cb C { s with code := s.code.set j (s.code[j].1,v) } sv (.slice (some ⟨d,0,none⟩) n dc) lv (w.setCell ⟨d,j * 2 + 1,none⟩ (.int .i64 v)) := by
  have hs := h.cod
  have hn : n = s.code.length := by
    obtain ⟨o,c,e⟩ := owns_shape' hs
    simp only [Value.slice.injEq] at e
    exact e.2.1
  subst hn
  have hlow := (owns_block hs d rfl).1
  have hdm : d ≠ cb := fun e => h.n2 (by rw [e]; rfl)
  refine ⟨cel_set (Cel.refl _ _) hlow (h.t2 d rfl) _ _,⟨h.low,?_,owns_set_other h.sco (fun e => h.d1 d e rfl) _ _,?_,owns_set_other h.cal (h.d3 d rfl) _ _,h.n1,h.n2,h.n3,h.d1,h.d2,h.d3,fun k hk => (by have := h.tlt k hk; simpa [World.setCell] using this),h.nm,h.t1,h.t2,h.t3,by obtain ⟨uv,hu,hd⟩ := h.vw; exact ⟨uv,hu.set (fun k hk e => (hd k hk).2.2.1 (by rw [e]; rfl)) _ _,hd⟩⟩⟩
  · rw [Below.heap_setCell _ _ _ _ (Ne.symm hdm)]; exact h.blk
  · have := owr_set hs (j * 2 + 1) (.int .i64 v)
    rw [insCells_set _ _ hj] at this
    simpa using this
theorem land_any (B : Cb) (cb : Nat) (C : CK) (s : CS) (sv kv lv : Value) (w : World) (h : Cd B cb C s sv kv lv w) (j : Nat) (hj : j < s.code.length) (hl : s.code.length ≤ 1000000) :
    Calls Tryz.prog 260 #[.pointer (some ⟨cb,0,none⟩),.int .i64 j] w fun e w' =>
      e = .returned (.tuple #[]) ∧ Wrote B cb C w { s with code := s.code.set j (s.code[j].1,(s.code.length : Int)) } w' := by
  have h1 := h.lt
  have h2 := h.low
  obtain ⟨g,cap,cur,rfl,hg1,hg2,hg3,hg4,hg5,hg6⟩ := owr_shape h.cod (by omega)
  obtain ⟨f0,f1,f7,f8,f9⟩ := h.field
  have hgl := lt_of_some hg2
  have hgf := free_block hg2
  have c1 := (owns_cell h.cod (j * 2 + 1) (by omega)).trans (insCells_at s.code j hj).2
  have HP := hide (h.setCode j hj (s.code.length : Int))
  clear h hg2 hg5 hg6
  go_enter Tryz.func260,Tryz.ntmps260
  go_wp2_with fail
  go_region
  all_goals
    (try go_wp2)
    go_end0
    exact ⟨rfl,Wrote.mk ⟨HP.out.1.drew,HP.out.2.drew⟩⟩
theorem slotR_take (name : List UInt8) (sc : List (List UInt8)) (k : Nat) (hk : k < sc.length) : slotR name (sc.take (k + 1)).reverse = if 0 < k ∧ sc[k] ≠ name then slotR name (sc.take k).reverse else (k : Int) := by
  rw [List.take_succ_eq_append_getElem hk,List.reverse_append]
  simp only [List.reverse_cons,List.reverse_nil,List.nil_append,List.cons_append,slotR,List.length_reverse,List.length_take]
  rw [Nat.min_eq_left (by omega)]
theorem slot_any (B : Cb) (cb : Nat) (C : CK) (s : CS) (sv kv lv : Value) (w : World) (h : Cd B cb C s sv kv lv w) (name : List UInt8) (hl : s.scope.length ≤ 1000000) :
    Calls Tryz.prog 219 #[.pointer (some ⟨cb,0,none⟩),.string ⟨name.toArray⟩] w fun e w' =>
      e = .returned (.int .i64 (slotI s.scope name)) ∧ w' = w := by
  have h1 := h.lt
  obtain ⟨f0,f1,f7,f8,f9⟩ := h.field
  rcases Nat.eq_zero_or_pos s.scope.length with h0 | hpos
  · obtain ⟨so,sc,rfl⟩ := owns_shape' h.sco
    rw [h0] at f1
    have HX := hide (show slotI s.scope name = -1 by rw [List.eq_nil_of_length_eq_zero h0]; rfl)
    clear h
    have f1' : w.cell? ⟨cb,1,none⟩ = some (.slice so 0 sc) := f1
    clear f1
    go_enter Tryz.func219,Tryz.ntmps219
    go_wp2
    go_loop [5] (fun i => i = .int .i64 (-1)) (fun i => 0)
    case atStart => rfl
    case round =>
      subst hrel
      go_wp2
      go_ret
      exact ⟨ret_int HX.out.symm,rfl⟩
  · obtain ⟨g,cap,cur,rfl,hg1,hg2,hg3,hg4,hg5,hg6⟩ := owr_shape h.sco hpos
    have hgl := lt_of_some hg2
    have HC := hide (fun (k : Nat) (hk : k < s.scope.length) => (owns_cell h.sco k (by omega)).trans (by rw [strCells,List.getElem?_map,List.getElem?_eq_getElem hk]; rfl : (strCells s.scope)[k]? = some (.string ⟨(s.scope[k]).toArray⟩)))
    clear h hg2 hg5 hg6
    go_enter Tryz.func219,Tryz.ntmps219
    go_wp2
    go_loop [5] (fun i => ∃ k : Nat,i = .int .i64 k ∧ k < s.scope.length ∧ Hid (slotI s.scope name = slotR name (s.scope.take (k + 1)).reverse)) (fun i => (intOf i).toNat)
    case atStart => exact ⟨s.scope.length - 1,by congr 1; omega,by omega,by show slotR name s.scope.reverse = _; rw [Nat.sub_add_cancel hpos,List.take_length]⟩
    case round =>
      obtain ⟨k,rfl,hk,HR⟩ := hrel
      have hc := HC.out k hk
      have HT := hide (slotR_take name s.scope k hk)
      rcases Nat.eq_zero_or_pos k with rfl | hk0
      · go_wp2
        go_ret
        exact ⟨ret_int (by rw [HR.out,HT.out]; simp),rfl⟩
      · have hk1 : (0 : Int) < (k : Int) := by omega
        rcases he : (s.scope[k] == name) with _ | _
        · have hne : ¬ s.scope[k] = name := by simpa using he
          go_wp2
          go_round
          case rel => exact ⟨k - 1,by congr 1; omega,by omega,by show slotI s.scope name = _; rw [HR.out,HT.out,if_pos ⟨hk0,hne⟩,Nat.sub_add_cancel hk0]⟩
          case measure => simp [intOf]; omega
        · have heq : s.scope[k] = name := by simpa using he
          go_wp2
          go_ret
          exact ⟨ret_int (by rw [HR.out,HT.out,if_neg (fun h => h.2 heq)]),rfl⟩
theorem operator_any (k : Nat) (hk : k < 15) (w : World) :
    Calls Tryz.prog 224 #[.int .i64 k] w fun e w' => e = .returned (.int .i64 (opOf k)) ∧ w' = w := by
  have hx : k = 7 ∨ k = 8 ∨ k = 9 ∨ k = 10 ∨ k = 11 ∨ k = 12 ∨ k = 13 ∨ (k < 7 ∨ k = 14) := by omega
  rcases hx with rfl | rfl | rfl | rfl | rfl | rfl | rfl | hx
  case inr.inr.inr.inr.inr.inr.inr =>
    have HO := hide (show opOf k = 14 by unfold opOf; rw [if_neg (by omega)])
    have e7 : ((k : Int) == 7) = false := by simp; omega
    have e8 : ((k : Int) == 8) = false := by simp; omega
    have e9 : ((k : Int) == 9) = false := by simp; omega
    have e10 : ((k : Int) == 10) = false := by simp; omega
    have e11 : ((k : Int) == 11) = false := by simp; omega
    have e12 : ((k : Int) == 12) = false := by simp; omega
    have e13 : ((k : Int) == 13) = false := by simp; omega
    go_enter Tryz.func224,Tryz.ntmps224
    go_wp2
    go_ret
    exact ⟨ret_int (by rw [HO.out]; rfl),rfl⟩
  all_goals
    go_enter Tryz.func224,Tryz.ntmps224
    go_wp2
    go_ret
    exact ⟨rfl,rfl⟩
end Go.Proofs.YtpmmjkiclngpmaaGreatDoor
namespace Go.Proofs.YtpmmjkiclngpmaaGreatDoor
open Go.RowKit
def CS.emit (s : CS) (op : Nat) (v : Int) : CS := { s with code := s.code ++ [(op,v)] }
def CS.enter (s : CS) (name : List UInt8) : CS := { s with scope := s.scope ++ [name],slots := max s.slots (s.scope.length + 1) }
def CS.land (s : CS) (j : Nat) : CS := { s with code := s.code.set j ((s.code.getD j (0,0)).1,(s.code.length : Int)) }
def gens (g : Ex → CS → CS) : List Ex → CS → CS
  | [],s => s
  | e :: r,s => gens g r (g e s)
def CS.ifs (g : Ex → CS → CS) (a b c : Ex) (s : CS) : CS :=
  (g c (((g b ((g a s).emit 4 0)).emit 3 0).land (g a s).code.length)).land (g b ((g a s).emit 4 0)).code.length
def CS.lets (g : Ex → CS → CS) (name : List UInt8) (a b : Ex) (s : CS) : CS :=
  { g b (((g a s).enter name).emit 2 (g a s).scope.length) with scope := (g b (((g a s).enter name).emit 2 (g a s).scope.length)).scope.take s.scope.length }
def CS.calls1 (s : CS) (x : List UInt8 × List UInt8) : CS := ({ s with calls := s.calls ++ [x] } : CS).emit 5 s.calls.length
structure Fnd where
  sym : List UInt8 → List UInt8 × List UInt8
  use : List UInt8 → List Us
  le : ∀ n,(use n).length ≤ 1000
def gen (fnd : Fnd) : Nat → Ex → CS → CS
  | 0,_,s => s
  | m + 1,e,s =>
    if e.kind = 0 ∨ e.kind = 1 then s.emit 0 e.value
    else if e.kind = 2 then s.emit 1 (slotI s.scope e.name)
    else if e.kind = 4 then gens (gen fnd m) (e.parts.take 1) s
    else if e.kind = 5 then (match e.parts with | [a,b,c] => CS.ifs (gen fnd m) a b c s | _ => s)
    else if e.kind = 6 then (match e.parts with | [a,b] => CS.lets (gen fnd m) e.name a b s | _ => s)
    else if e.kind = 3 then ((gens (gen fnd m) e.parts s).saw (fnd.use e.name)).calls1 (fnd.sym e.name)
    else (gens (gen fnd m) e.parts s).emit (opOf e.kind) 0
def Shp (known : List UInt8 → Prop) : Nat → Ex → Prop
  | 0,_ => False
  | m + 1,e => e.kind < 15 ∧ (e.kind = 4 → e.parts.length = 1) ∧ (e.kind = 5 → e.parts.length = 3) ∧ (e.kind = 6 → e.parts.length = 2) ∧ (e.kind = 3 → known e.name) ∧ ∀ x ∈ e.parts,Shp known m x
structure Fit (s : CS) (n : Nat) : Prop where
  code : s.code.length + 2 * n ≤ 1000000
  scope : s.scope.length + n ≤ 1000000
  slots : s.slots ≤ 1000000
  calls : s.calls.length + n ≤ 1000000
  lk : s.lk.length + 1000 * n ≤ 8000000000
structure Grew (s t : CS) (n k : Nat) : Prop where
  code : s.code.length ≤ t.code.length ∧ t.code.length ≤ s.code.length + k
  scope : t.scope = s.scope
  slots : t.slots ≤ max s.slots (s.scope.length + n)
  calls : t.calls.length ≤ s.calls.length + n
  lk : t.lk.length ≤ s.lk.length + 1000 * n
theorem Grew.fit {s t : CS} {n m : Nat} (h : Grew s t n (2 * n)) (f : Fit s (n + m)) : Fit t m := by
  have := h.code; have := h.slots; have := h.calls; have := h.lk
  obtain ⟨a,b,c,d,e⟩ := f
  refine ⟨by omega,by rw [h.scope]; omega,by omega,by omega,by omega⟩
theorem Fit.mono {s : CS} {n m : Nat} (f : Fit s n) (h : m ≤ n) : Fit s m := ⟨by have := f.code; omega,by have := f.scope; omega,f.slots,by have := f.calls; omega,by have := f.lk; omega⟩
theorem Grew.refl (s : CS) (n k : Nat) : Grew s s n k := ⟨by omega,rfl,by omega,by omega,by omega⟩
theorem Grew.trans {s t u : CS} {n m k l : Nat} (h : Grew s t n k) (g : Grew t u m l) : Grew s u (n + m) (k + l) := by
  obtain ⟨a,b,c,d,e⟩ := h
  obtain ⟨a',b',c',d',e'⟩ := g
  rw [b] at c' b'
  exact ⟨by omega,b',by omega,by omega,by omega⟩
theorem Grew.mono {s t : CS} {n m k l : Nat} (h : Grew s t n k) (g : n ≤ m) (g2 : k ≤ l) : Grew s t m l := ⟨by have := h.code; omega,h.scope,by have := h.slots; omega,by have := h.calls; omega,by have := h.lk; omega⟩
theorem gens_grew {g : Ex → CS → CS} {sz : Ex → Nat} (l : List Ex) (h : ∀ x ∈ l,∀ s,Grew s (g x s) (sz x) (2 * sz x)) (s : CS) : Grew s (gens g l s) (szL sz l) (2 * szL sz l) := by
  induction l generalizing s with
  | nil => exact Grew.refl _ _ _
  | cons x r ih =>
    have := (h x (by simp) s).trans (ih (fun y hy => h y (by simp [hy])) (g x s))
    exact this.mono (Nat.le_refl _) (by simp only [szL,List.foldr_cons]; omega)
theorem Grew.emit (s : CS) (op : Nat) (v : Int) : Grew s (s.emit op v) 0 1 := ⟨by simp [CS.emit],rfl,by simp [CS.emit]; omega,by simp [CS.emit],by simp [CS.emit]⟩
theorem Grew.land (s : CS) (j : Nat) : Grew s (s.land j) 0 0 := ⟨by simp [CS.land],rfl,by simp [CS.land]; omega,by simp [CS.land],by simp [CS.land]⟩
theorem Grew.calls1 (s : CS) (x : List UInt8 × List UInt8) (u : List Us) (hu : u.length ≤ 1000) : Grew s ((s.saw u).calls1 x) 1 1 := ⟨by simp [CS.calls1,CS.emit,CS.saw],rfl,by simp [CS.calls1,CS.emit,CS.saw]; omega,by simp [CS.calls1,CS.emit,CS.saw],by simp [CS.calls1,CS.emit,CS.saw]; omega⟩
theorem gen_grew (fnd : Fnd) (m : Nat) : ∀ (e : Ex) (s : CS),Grew s (gen fnd m e s) (sz m e) (2 * sz m e) := by
  induction m with
  | zero => intro e s; exact Grew.refl _ _ _
  | succ m ih =>
    intro e s
    have hsz : sz (m + 1) e = 1 + szL (sz m) e.parts := rfl
    rw [hsz]
    unfold gen
    split
    · exact (Grew.emit s _ _).mono (by omega) (by omega)
    · split
      · exact (Grew.emit s _ _).mono (by omega) (by omega)
      · split
        · have := gens_grew (g := gen fnd m) (sz := sz m) (e.parts.take 1) (fun x _ s => ih x s) s
          have hle : szL (sz m) (e.parts.take 1) ≤ szL (sz m) e.parts := by
            cases e.parts with
            | nil => simp [szL]
            | cons x r => simp [szL]
          exact this.mono (by omega) (by omega)
        · split
          · split
            · next a b c hp =>
              rw [hp]
              unfold CS.ifs
              have h := ((((((ih a s).trans (Grew.emit (gen fnd m a s) 4 0)).trans (ih b ((gen fnd m a s).emit 4 0))).trans (Grew.emit _ 3 0)).trans (Grew.land _ (gen fnd m a s).code.length)).trans (ih c _)).trans (Grew.land _ (gen fnd m b ((gen fnd m a s).emit 4 0)).code.length)
              exact h.mono (by simp only [szL,List.foldr_cons,List.foldr_nil]; omega) (by simp only [szL,List.foldr_cons,List.foldr_nil]; omega)
            · exact Grew.refl _ _ _
          · split
            · split
              · next a b hp =>
                rw [hp]
                have h1 := ih a s
                unfold CS.lets
                generalize gen fnd m a s = s1 at *
                have h2 := ih b ((s1.enter e.name).emit 2 s1.scope.length)
                generalize gen fnd m b ((s1.enter e.name).emit 2 s1.scope.length) = s2 at *
                obtain ⟨c1,c2,c3,c4,c5⟩ := h1
                obtain ⟨d1,d2,d3,d4,d5⟩ := h2
                simp only [CS.emit,CS.enter,List.length_append,List.length_cons,List.length_nil] at d1 d2 d3 d4 d5
                simp only [szL,List.foldr_cons,List.foldr_nil]
                rw [c2] at d2 d3
                refine ⟨?_,?_,?_,?_,?_⟩
                · simp only; omega
                · simp only; rw [d2]; simp
                · simp only; omega
                · simp only; omega
                · simp only; omega
              · exact Grew.refl _ _ _
            · split
              · exact ((gens_grew (g := gen fnd m) (sz := sz m) e.parts (fun x _ s => ih x s) s).trans (Grew.calls1 _ _ _ (fnd.le _))).mono (by omega) (by omega)
              · exact ((gens_grew (g := gen fnd m) (sz := sz m) e.parts (fun x _ s => ih x s) s).trans (Grew.emit _ _ _)).mono (by omega) (by omega)
def ExAt (m : Nat) (S : Nat → Prop) (w : World) (b o : Nat) (e : Ex) : Prop :=
  ∃ pv,w.cell? ⟨b,o,none⟩ = some (.int .i64 e.kind) ∧ w.cell? ⟨b,o + 2,none⟩ = some (.string ⟨e.name.toArray⟩) ∧ w.cell? ⟨b,o + 3,none⟩ = some (.int .i64 e.value) ∧ w.cell? ⟨b,o + 4,none⟩ = some pv ∧ PartsN m S w pv e.parts
theorem PartsN.at {m : Nat} {S : Nat → Prop} {w : World} {pv : Value} {es : List Ex} (h : PartsN m S w pv es) (h0 : 0 < es.length) :
    ∃ k g cap,m = k + 1 ∧ pv = .slice (some ⟨g,0,none⟩) es.length cap ∧ S g ∧ g < w.heap.size ∧ es.length ≤ cap ∧ ∀ j,(hj : j < es.length) → ExAt k S w g (j * 5) es[j] := by
  cases m with
  | zero => obtain ⟨rfl,_⟩ := h; simp at h0
  | succ k =>
    rcases h with ⟨rfl,_⟩ | ⟨g,cap,cur,h1,h2,h3,h4,h5⟩
    · simp at h0
    · refine ⟨k,g,cap,rfl,h1,h2,lt_of_some h4,h3,fun j hj => ?_⟩
      obtain ⟨pj,a,b⟩ := h5 j hj
      have hc : ∀ i,i < 5 → cur[j * 5 + i]? = (exCells es[j] pj)[i]? := by
        intro i hi
        rw [← a,List.getElem?_take,if_pos hi,List.getElem?_drop]
        simp
      refine ⟨pj,?_,?_,?_,?_,b⟩
      · rw [cell_block h4]; exact (hc 0 (by omega))
      · rw [cell_block h4]; exact (hc 2 (by omega))
      · rw [cell_block h4]; exact (hc 3 (by omega))
      · rw [cell_block h4]; exact (hc 4 (by omega))
theorem PartsN.none {m : Nat} {S : Nat → Prop} {w : World} {pv : Value} {es : List Ex} (h : PartsN m S w pv es) : ∃ po pc,pv = .slice po es.length pc := by
  cases m with
  | zero => obtain ⟨rfl,h⟩ := h; exact ⟨_,_,h⟩
  | succ k =>
    rcases h with ⟨rfl,h⟩ | ⟨g,cap,cur,h1,_⟩
    · exact ⟨_,_,h⟩
    · exact ⟨_,_,h1⟩
theorem ExAt.below {m : Nat} {S : Nat → Prop} {B : Nat} {w w' : World} {b o : Nat} {e : Ex} (h : ExAt m S w b o e) (hb : b < B) (hS : ∀ k,S k → k < B) (hw : Below B w w') : ExAt m S w' b o e := by
  obtain ⟨pv,a,b',c,d,f⟩ := h
  exact ⟨pv,(below_cell hw hb _).trans a,(below_cell hw hb _).trans b',(below_cell hw hb _).trans c,(below_cell hw hb _).trans d,f.keep (fun k h1 _ => ⟨h1,hw.block k (hS k h1)⟩)⟩
end Go.Proofs.YtpmmjkiclngpmaaGreatDoor
