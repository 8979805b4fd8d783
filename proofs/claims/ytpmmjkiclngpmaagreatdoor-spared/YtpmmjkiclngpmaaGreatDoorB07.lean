/- YtpmmjkiclngpmaaGreatDoorB07 -/
import Derived.Test.YtpmmjkiclngpmaaGreatDoorB06
import Derived.Deep.RegionWith
set_option maxRecDepth 100000
set_option linter.unusedSimpArgs false
set_option linter.unusedVariables false
set_option maxHeartbeats 12800000
namespace Go.Proofs.YtpmmjkiclngpmaaGreatDoor
open Go.RowKit
def Fr.unl (x : Fr) (y : Int) (p : Nat) : Fr := if y = 0 then { x with next := p } else x
theorem Mc.top {B : Bd} {mb ib fb : Nat} {sv fv : Value} {s : MS} {w : World} (h : Mc B mb ib fb sv fv s w) (x : Fr) (r : List Fr) (hx : s.frames = x :: r) :
    ∃ g cap,fv = .slice (some ⟨g,0,none⟩) (r.length + 1) cap ∧ B.lo ≤ g ∧ g < w.heap.size ∧ g ≠ mb ∧ r.length + 1 ≤ cap ∧ cap ≤ maxLen ∧ (∀ o,w.frozen? ⟨g,o,none⟩ = false) ∧
      w.cell? ⟨g,r.length * 3,none⟩ = some (.pointer (some ⟨fb,x.f * 8,none⟩)) ∧ w.cell? ⟨g,r.length * 3 + 1,none⟩ = some (.int .i64 x.next) ∧ w.cell? ⟨g,r.length * 3 + 2,none⟩ = some (.int .i64 x.base) := by
  have hf := h.frm
  rw [hx] at hf
  obtain ⟨g,cap,cur,rfl,hg1,hg2,hg3,hg4,hg5,hg6⟩ := owr_shape hf (by simp)
  refine ⟨g,cap,rfl,hg1,lt_of_some hg2,fun e => h.ne2 (by rw [e]; rfl),hg3,hg4,fun o => free_block hg2 o,?_,?_,?_⟩ <;>
  · rw [owns_cell hf _ (by simp only [List.length_cons]; omega),fmCells_cons,List.getElem?_append_right (by rw [fmCells_len]; first | omega | exact Nat.le_refl _),fmCells_len]
    first | done | simp [frCells]
theorem Mc.putNext {B : Bd} {mb ib fb g cap : Nat} {sv : Value} {s : MS} {w : World} (x : Fr) (r : List Fr) (h : Mc B mb ib fb sv (.slice (some ⟨g,0,none⟩) (r.length + 1) cap) s w) (hx : s.frames = x :: r) (n : Nat) (v : Int) (hv : v = n) :
    Bel B w (w.setCell ⟨g,r.length * 3 + 1,none⟩ (.int .i64 v)) ∧ Mc B mb ib fb sv (.slice (some ⟨g,0,none⟩) (r.length + 1) cap) { s with frames := { x with next := n } :: r } (w.setCell ⟨g,r.length * 3 + 1,none⟩ (.int .i64 v)) := by
  have hf := h.frm
  rw [hx] at hf
  have hlow := (owns_block h.frm g rfl).1
  have hgm : g ≠ mb := fun e => h.ne2 (by rw [e]; rfl)
  have hsg : sv.ownBlock ≠ some g := fun e => h.ne3 g e rfl
  refine ⟨below_set (Bel.refl _ _) hlow (fun e => h.nf (by rw [← e]; rfl)) _ _,⟨h.low,?_,owns_set_other h.stk hsg _ _,?_,h.ne1,h.ne2,h.ne3,by have := h.tlt; simpa [World.setCell] using this,h.nm,h.ns,h.nf⟩⟩
  · rw [Below.heap_setCell _ _ _ _ (Ne.symm hgm)]; exact h.blk
  · have := owr_set hf (r.length * 3 + 1) (.int .i64 v)
    rw [fmCells_cons,List.set_append_right _ _ (by rw [fmCells_len]; omega),fmCells_len] at this
    simp only [fmCells_cons]
    subst hv
    simpa [frCells] using this
theorem frame_any (B : Bd) (mb ib fb : Nat) (sv : Value) (s : MS) (w : World) (g n cap : Nat) (h : Mc B mb ib fb sv (.slice (some ⟨g,0,none⟩) (n + 1) cap) s w) (hn : n ≤ 1000000) :
    Calls Tryz.prog 100 #[.pointer (some ⟨mb,0,none⟩)] w fun e w' =>
      e = .returned (.pointer (some ⟨g,n * 3,none⟩)) ∧ Below w.heap.size w w' := by
  obtain ⟨f0,f1,f2,f3,f4⟩ := h.field
  have h1 := h.lt
  clear h
  go_enter Tryz.func100,Tryz.ntmps100
  go_wp2
  go_region
  all_goals (try go_wp2)
  all_goals
    go_ret
    exact ⟨rfl,(Below.refl _ _).drew⟩
theorem jump_any (B : Bd) (mb ib fb : Nat) (sv fv : Value) (s : MS) (w : World) (h : Mc B mb ib fb sv fv s w) (x : Fr) (r : List Fr) (hx : s.frames = x :: r) (hr : r.length ≤ 1000000) (p : Nat) :
    Calls Tryz.prog 140 #[.pointer (some ⟨mb,0,none⟩),.int .i64 p] w fun e w' =>
      e = .returned (.tuple #[]) ∧ Went B mb ib fb w { s with frames := { x with next := p } :: r } w' := by
  obtain ⟨g,cap,rfl,hg1,hg2,hg3,hg4,hg5,hg6,t0,t1,t2⟩ := h.top x r hx
  have HM := hide h
  have HX := hide hx
  have h1 := h.lt
  have h2 := h.low
  clear h hx
  go_enter Tryz.func140,Tryz.ntmps140
  go_wp2_with fail
  refine (frame_any B mb ib fb sv s _ g r.length cap HM.out hr).mono ?_
  rintro e w1 ⟨rfl,hb⟩
  have HM1 := hide (HM.out.below hb)
  obtain ⟨g',cap',hh,_,k2,_,_,_,k6,u0,u1,u2⟩ := HM1.out.top x r HX.out
  simp only [Value.slice.injEq,Option.some.injEq,Addr.mk.injEq] at hh
  obtain ⟨⟨rfl,_⟩,_,rfl⟩ := hh
  have HB := hide (Bel.of (B := B) hb (by omega) HM.out.tlt)
  clear hb
  have HP := hide (HM1.out.putNext x r HX.out p _ rfl)
  go_wp2
  go_end0
  exact ⟨rfl,Went.trans HB.out (Went.mk HP.out)⟩
theorem unless_any (B : Bd) (mb ib fb : Nat) (sv fv : Value) (s : MS) (w : World) (h : Mc B mb ib fb sv fv s w) (x : Fr) (r : List Fr) (hx : s.frames = x :: r) (hr : r.length ≤ 1000000) (y : Int) (q : List Int) (hy : s.stack = y :: q) (hq : q.length ≤ 10000000) (p : Nat) :
    Calls Tryz.prog 141 #[.pointer (some ⟨mb,0,none⟩),.int .i64 p] w fun e w' =>
      e = .returned (.tuple #[]) ∧ Went B mb ib fb w { s with stack := q,frames := (x.unl y p) :: r } w' := by
  have HM := hide h
  have HX := hide hx
  have HY := hide hy
  clear h hx hy
  rcases hz : (y == 0) with _ | _
  · have HS := hide (show x.unl y p = x by rw [Fr.unl,if_neg (by simpa using hz)])
    go_enter Tryz.func141,Tryz.ntmps141
    go_wp2_with fail
    refine (pop_any B mb ib fb sv fv s _ HM.out y q HY.out hq).mono ?_
    rintro e w1 ⟨rfl,hb,d,dc,hsv,hm⟩
    have HW := hide (Went.mk ⟨hb,hm⟩)
    clear hb hm hsv
    go_wp2
    go_end0
    exact ⟨rfl,by rw [HS.out,← HX.out]; exact HW.out⟩
  · have HS := hide (show x.unl y p = { x with next := p } by rw [Fr.unl,if_pos (by simpa using hz)])
    go_enter Tryz.func141,Tryz.ntmps141
    go_wp2_with fail
    refine (pop_any B mb ib fb sv fv s _ HM.out y q HY.out hq).mono ?_
    rintro e w1 ⟨rfl,hb,d,dc,hsv,hm1⟩
    have HB := hide hb
    have HM1 := hide hm1
    clear hb hm1 hsv
    go_wp2_with fail
    refine (jump_any B mb ib fb _ fv _ _ HM1.out x r HX.out hr p).mono ?_
    rintro e w2 ⟨rfl,hw⟩
    have HW := hide hw
    clear hw
    go_wp2
    go_end0
    exact ⟨rfl,by rw [HS.out]; exact Went.trans HB.out HW.out⟩
theorem below_drew {B : Bd} {w w1 : World} (h : Below w.drew.heap.size w.drew w1) (hB : B.lo ≤ w.heap.size) (ht : B.tb < w.heap.size) : Bel B w w1 := ⟨⟨h.os,h.tape,h.output,h.size,fun k hk => h.block k (Nat.lt_of_lt_of_le hk hB)⟩,h.block _ ht⟩
theorem Mc.at {B : Bd} {mb ib fb : Nat} {sv fv : Value} {s : MS} {w : World} (h : Mc B mb ib fb sv fv s w) (k : Nat) (y : Int) (hy : s.stack.reverse[k]? = some y) :
    ∃ g cap,sv = .slice (some ⟨g,0,none⟩) s.stack.length cap ∧ k < s.stack.length ∧ B.lo ≤ g ∧ g < w.heap.size ∧ g ≠ mb ∧ s.stack.length ≤ cap ∧ cap ≤ maxLen ∧ (∀ o,w.frozen? ⟨g,o,none⟩ = false) ∧ w.cell? ⟨g,k,none⟩ = some (.int .i64 y) := by
  have hk : k < s.stack.length := by have := (List.getElem?_eq_some_iff.1 hy).1; simpa using this
  have hs := h.stk
  obtain ⟨g,cap,cur,rfl,hg1,hg2,hg3,hg4,hg5,hg6⟩ := owr_shape hs (by omega)
  refine ⟨g,cap,rfl,hk,hg1,lt_of_some hg2,fun e => h.ne1 (by rw [e]; rfl),hg3,hg4,fun o => free_block hg2 o,?_⟩
  rw [owns_cell hs _ (by omega),stCells,List.getElem?_map,hy]
  rfl
theorem load_any (B : Bd) (mb ib fb : Nat) (sv fv : Value) (s : MS) (w : World) (h : Mc B mb ib fb sv fv s w) (x : Fr) (r : List Fr) (hx : s.frames = x :: r) (hr : r.length ≤ 1000000) (k : Nat) (hk : k ≤ 10000000) (hxb : x.base ≤ 10000000) (y : Int) (hy : s.stack.reverse[x.base + k]? = some y) (hl : s.stack.length ≤ 10000000) :
    Calls Tryz.prog 138 #[.pointer (some ⟨mb,0,none⟩),.int .i64 k] w fun e w' =>
      e = .returned (.tuple #[]) ∧ Went B mb ib fb w { s with stack := y :: s.stack } w' := by
  obtain ⟨g,cap,rfl,hg1,hg2,hg3,hg4,hg5,hg6,t0,t1,t2⟩ := h.top x r hx
  obtain ⟨d,dc,rfl,hd0,hd1,hd2,hd3,hd4,hd5,hd6,c0⟩ := h.at _ y hy
  obtain ⟨f0,f1,f2,f3,f4⟩ := h.field
  have h1 := h.lt
  have h2 := h.low
  have HM := hide h
  clear h hx hy
  obtain ⟨q,hq⟩ : ∃ q : Nat,x.base + k = q := ⟨_,rfl⟩
  rw [hq] at c0 hd0
  have e1 : IntKind.i64.wrap ((x.base : Int) + k) = (q : Int) := by rw [wrap_id _ (by omega) (by omega)]; omega
  go_enter Tryz.func138,Tryz.ntmps138
  go_wp2_with fail
  go_region_with (first
    | (go_at_call 100; go_must (refine (frame_any B mb ib fb _ s _ g r.length cap (by first | exact HM.out | exact HM.out.drew) hr).mono ?_; rintro e w1 ⟨rfl,hb⟩; have q1 := (hb.cell (p := ⟨mb,1,none⟩) (by first | exact h1 | simpa using h1)).trans f1; have q2 := (hb.cell (p := ⟨g,r.length * 3 + 2,none⟩) (by first | exact hg2 | simpa using hg2)).trans t2; have q3 := (hb.cell (p := ⟨d,q,none⟩) (by first | exact hd2 | simpa using hd2)).trans c0; have s1 := Nat.lt_of_lt_of_le h1 hb.size; have s2 := Nat.lt_of_lt_of_le hg2 hb.size; have s3 := Nat.lt_of_lt_of_le hd2 hb.size; have HB := hide hb; clear hb))
    | (go_at_call 137; go_must (refine (push_any B mb ib fb _ _ s _ (by exact (HM.out.drew.below HB.out)) y hl).mono ?_; rintro e w2 ⟨rfl,hw⟩; have HW := hide hw; clear hw)))
  all_goals
    go_wp2
    go_end0
    exact ⟨rfl,Went.trans (below_drew HB.out (by omega) HM.out.tlt) HW.out⟩
theorem stCells_set (q : List Int) (k : Nat) (y : Int) : (stCells q).set k (.int .i64 y) = stCells ((q.reverse.set k y).reverse) := by
  simp [stCells,List.map_set]
theorem Mc.setStack {B : Bd} {mb ib fb d n dc : Nat} {fv : Value} {s : MS} {w : World} (h : Mc B mb ib fb (.slice (some ⟨d,0,none⟩) n dc) fv s w) (j : Nat) (y : Int) :
    Mc B mb ib fb (.slice (some ⟨d,0,none⟩) n dc) fv { s with stack := (s.stack.reverse.set j y).reverse } (w.setCell ⟨d,j,none⟩ (.int .i64 y)) := by
  have hs := h.stk
  have hn : n = s.stack.length := by
    obtain ⟨o,c,e⟩ := owns_shape' hs
    simp only [Value.slice.injEq] at e
    exact e.2.1
  subst hn
  have hdm : d ≠ mb := fun e => h.ne1 (by rw [e]; rfl)
  have hfd : fv.ownBlock ≠ some d := h.ne3 d rfl
  refine ⟨h.low,?_,?_,owns_set_other h.frm hfd _ _,h.ne1,h.ne2,h.ne3,by have := h.tlt; simpa [World.setCell] using this,h.nm,h.ns,h.nf⟩
  · rw [Below.heap_setCell _ _ _ _ (Ne.symm hdm)]; exact h.blk
  · have := owr_set hs j (.int .i64 y)
    rw [stCells_set] at this
    simpa using this
theorem store_any (B : Bd) (mb ib fb : Nat) (sv fv : Value) (s : MS) (w : World) (h : Mc B mb ib fb sv fv s w) (x : Fr) (r : List Fr) (hx : s.frames = x :: r) (hr : r.length ≤ 1000000) (k : Nat) (hk : k ≤ 10000000) (hxb : x.base ≤ 10000000) (y : Int) (q : List Int) (hy : s.stack = y :: q) (hkq : x.base + k < q.length) (hl : q.length ≤ 10000000) :
    Calls Tryz.prog 139 #[.pointer (some ⟨mb,0,none⟩),.int .i64 k] w fun e w' =>
      e = .returned (.tuple #[]) ∧ Went B mb ib fb w { s with stack := (q.reverse.set (x.base + k) y).reverse } w' := by
  obtain ⟨g,cap,rfl,hg1,hg2,hg3,hg4,hg5,hg6,t0,t1,t2⟩ := h.top x r hx
  have hlen : s.stack.length = q.length + 1 := by rw [hy]; rfl
  have hst := h.stk
  obtain ⟨d,dc,cur,rfl,hd1,hd2,hd3,hd4,hd5,hd6⟩ := owr_shape hst (by omega)
  obtain ⟨f0,f1,f2,f3,f4⟩ := h.field
  have h1 := h.lt
  have h2 := h.low
  have hdl := lt_of_some hd2
  have hgd : g ≠ d := fun e => h.ne3 d rfl (by rw [e]; rfl)
  have hmd : d ≠ mb := fun e => h.ne1 (by rw [e]; rfl)
  obtain ⟨j,hj⟩ : ∃ j : Nat,x.base + k = j := ⟨_,rfl⟩
  rw [hj] at hkq ⊢
  have e1 : IntKind.i64.wrap ((x.base : Int) + k) = (j : Int) := by rw [wrap_id _ (by omega) (by omega)]; omega
  rw [hlen] at f1
  have HM := hide h
  have HX := hide hx
  have HY := hide hy
  clear h hx hy hst hd2 hd6
  go_enter Tryz.func139,Tryz.ntmps139
  go_wp2_with fail
  go_region_with (first
    | (go_at_call 100; go_must (refine (frame_any B mb ib fb _ s _ g r.length cap (by first | exact HM.out | exact HM.out.drew) hr).mono ?_; rintro e w1 ⟨rfl,hb⟩; have q1 := (hb.cell (p := ⟨mb,1,none⟩) (by first | exact h1 | simpa using h1)).trans f1; have q2 := (hb.cell (p := ⟨g,r.length * 3 + 2,none⟩) (by first | exact hg2 | simpa using hg2)).trans t2; have s1 := Nat.lt_of_lt_of_le h1 hb.size; have s2 := Nat.lt_of_lt_of_le hg2 hb.size; have s3 := Nat.lt_of_lt_of_le hdl hb.size; have HB := hide hb; clear hb))
    | (go_at_call 65; go_must (refine (pop_any B mb ib fb _ _ s _ (by exact (HM.out.drew.below HB.out)) y q HY.out hl).mono ?_; rintro e w2 ⟨rfl,hb2,d',dc',hh,hm2⟩; simp only [Value.slice.injEq,Option.some.injEq,Addr.mk.injEq] at hh; obtain ⟨⟨rfl,_⟩,_,rfl⟩ := hh; obtain ⟨g',cap',hh2,_,k2,_,_,_,k6,u0,u1,p2⟩ := hm2.top x r HX.out; simp only [Value.slice.injEq,Option.some.injEq,Addr.mk.injEq] at hh2; obtain ⟨⟨rfl,_⟩,_,rfl⟩ := hh2; obtain ⟨_,p1,_,_,_⟩ := hm2.field; have p3 := owns_cell hm2.stk j (by simpa using hkq); rw [stCells,List.getElem?_map,List.getElem?_eq_getElem (by simpa using hkq),Option.map_some] at p3; obtain ⟨p4,p5,_,_,_⟩ := owns_free hm2.stk; have p6 := hm2.lt; have HB2 := hide hb2; have HM2 := hide hm2; clear hb2 hm2)))
  all_goals
    go_wp2
    go_end0
    exact ⟨rfl,Went.mk ⟨below_set ((below_drew HB.out (by omega) HM.out.tlt).trans HB2.out) hd1 (fun e => HM.out.ns (by rw [← e]; rfl)) _ _,HM2.out.setStack j y⟩⟩
end Go.Proofs.YtpmmjkiclngpmaaGreatDoor
namespace Go.Proofs.YtpmmjkiclngpmaaGreatDoor
open Go.RowKit
def MS.call (fs : List Fn) (k : Nat) (s : MS) : Option MS :=
  if s.fuel = 0 then some { s with wrong := 11 }
  else if s.frames.length = 100 then some { s with wrong := 13 }
  else match fs[k]? with
    | none => none
    | some F => if F.params ≤ s.stack.length then some ⟨List.replicate (F.slots - F.params) 0 ++ s.stack,⟨k,0,s.stack.length - F.params⟩ :: s.frames,s.fuel - 1,s.wrong⟩ else none
def MS.exec (fs : List Fn) (op : Nat) (v : Int) (x : Fr) (r : List Fr) (st : List Int) (fuel : Nat) : Option MS :=
  if op = 0 then some ⟨v :: st,x :: r,fuel,0⟩
  else if op = 1 then (if 0 ≤ v then (match st.reverse[x.base + v.toNat]? with | some y => some ⟨y :: st,x :: r,fuel,0⟩ | none => none) else none)
  else if op = 2 then (if 0 ≤ v then (match st with | y :: q => if x.base + v.toNat < q.length then some ⟨(q.reverse.set (x.base + v.toNat) y).reverse,x :: r,fuel,0⟩ else none | [] => none) else none)
  else if op = 3 then (if 0 ≤ v then some ⟨st,{ x with next := v.toNat } :: r,fuel,0⟩ else none)
  else if op = 4 then (if 0 ≤ v then (match st with | y :: q => some ⟨q,x.unl y v.toNat :: r,fuel,0⟩ | [] => none) else none)
  else if op = 5 then (if 0 ≤ v then MS.call fs v.toNat ⟨st,x :: r,fuel,0⟩ else none)
  else if op = 6 then (match st with | y :: q => if x.base ≤ q.length then some ⟨y :: q.drop (q.length - x.base),r,fuel,0⟩ else none | [] => none)
  else if op = 13 ∨ op = 14 then (match st with | a :: q => some ⟨un1 op a :: q,x :: r,fuel,0⟩ | [] => none)
  else if op < 13 then (match st with | b :: a :: q => if op = 12 ∧ b = 0 then some ⟨q,x :: r,fuel,12⟩ else some ⟨bin2 op a b :: q,x :: r,fuel,0⟩ | _ => none)
  else none
def MS.step (fs : List Fn) (s : MS) : Option MS :=
  match s.frames with
  | [] => none
  | x :: r => if s.wrong = 0 ∧ s.stack.length ≤ 1000000 then (match fs[x.f]? with
    | none => none
    | some F => match F.code[x.next]? with
      | none => none
      | some (op,v) => MS.exec fs op v { x with next := x.next + 1 } r s.stack s.fuel) else none
def StepsN (fs : List Fn) : Nat → MS → MS → Prop
  | 0,s,t => s = t
  | n + 1,s,t => ∃ u,s.step fs = some u ∧ StepsN fs n u t
def Steps (fs : List Fn) (s t : MS) : Prop := ∃ n,StepsN fs n s t
theorem StepsN.trans {fs : List Fn} {n m : Nat} {s t u : MS} (h : StepsN fs n s t) (k : StepsN fs m t u) : StepsN fs (n + m) s u := by
  induction n generalizing s with
  | zero => cases h; simpa using k
  | succ n ih =>
    obtain ⟨v,hv,hr⟩ := h
    rw [show n + 1 + m = n + m + 1 by omega]
    exact ⟨v,hv,ih hr⟩
theorem Steps.trans {fs : List Fn} {s t u : MS} (h : Steps fs s t) (k : Steps fs t u) : Steps fs s u := by
  obtain ⟨n,h⟩ := h; obtain ⟨m,k⟩ := k; exact ⟨n + m,h.trans k⟩
theorem Steps.refl (fs : List Fn) (s : MS) : Steps fs s s := ⟨0,rfl⟩
theorem Steps.one {fs : List Fn} {s t : MS} (h : s.step fs = some t) : Steps fs s t := ⟨1,t,h,rfl⟩
theorem Steps.exec {fs : List Fn} {x : Fr} {r : List Fr} {st : List Int} {fuel : Nat} {t : MS} {F : Fn} {op : Nat} {v : Int} (hF : fs[x.f]? = some F) (hc : F.code[x.next]? = some (op,v)) (hs : st.length ≤ 1000000)
    (h : MS.exec fs op v { x with next := x.next + 1 } r st fuel = some t) : Steps fs ⟨st,x :: r,fuel,0⟩ t := by
  refine Steps.one ?_
  simp only [MS.step,hF,hc,hs,and_self,if_true]
  exact h
end Go.Proofs.YtpmmjkiclngpmaaGreatDoor
