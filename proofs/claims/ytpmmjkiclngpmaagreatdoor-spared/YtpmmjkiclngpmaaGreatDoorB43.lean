/- YtpmmjkiclngpmaaGreatDoorB43 -/
import Derived.Test.YtpmmjkiclngpmaaGreatDoorB07
import Derived.Test.YtpmmjkiclngpmaaGreatDoorB06
import Derived.Deep.DeepCutAuto
import Derived.Deep.LoopGhost
set_option maxRecDepth 100000
set_option linter.unusedSimpArgs false
set_option linter.unusedVariables false
set_option maxHeartbeats 12800000
namespace Go.Proofs.YtpmmjkiclngpmaaGreatDoor
open Go.RowKit
theorem stCells_drop (q : List Int) (n : Nat) (h : n ≤ q.length) : (stCells q).take n = stCells (q.drop (q.length - n)) := by
  simp only [stCells,List.reverse_drop,← List.map_take]
  congr 2
  omega
theorem giveBack_any (B : Bd) (mb ib fb : Nat) (sv fv : Value) (s : MS) (w : World) (h : Mc B mb ib fb sv fv s w) (x : Fr) (r : List Fr) (hx : s.frames = x :: r) (hr : r.length ≤ 1000000) (hxb : x.base ≤ 10000000) (y : Int) (q : List Int) (hy : s.stack = y :: q) (hbq : x.base ≤ q.length) (hl : q.length ≤ 1000000) (v : Int) :
    Calls Tryz.prog 142 #[.pointer (some ⟨mb,0,none⟩),.int .i64 v] w fun e w' =>
      e = .returned (.tuple #[]) ∧ Went B mb ib fb w { s with stack := y :: q.drop (q.length - x.base),frames := r } w' := by
  have HM := hide h
  have HX := hide hx
  have HY := hide hy
  clear h hx hy
  go_enter Tryz.func142,Tryz.ntmps142
  go_wp2_with fail
  refine (pop_any B mb ib fb sv fv s _ HM.out y q HY.out (by omega)).mono ?_
  rintro e w1 ⟨rfl,hb,d,dc,hsv,hm⟩
  have HB := hide hb
  have HM1 := hide hm
  clear hsv hb
  obtain ⟨g,cap,rfl,hg1,hg2,hg3,hg4,hg5,hg6,t0,t1,t2⟩ := hm.top x r HX.out
  obtain ⟨f0,f1,f2,f3,f4⟩ := hm.field
  have h1 := hm.lt
  have h2 := hm.low
  obtain ⟨p4,p5,p6,p7,p8⟩ := owns_free hm.stk
  have g0 := free_block hm.blk
  have hdc : x.base ≤ dc := Nat.le_trans hbq p7
  clear hm
  unfold maxLen at p8 hg5
  go_wp2_with fail
  go_region_with (go_at_call 100; go_must (refine (frame_any B mb ib fb _ _ _ g r.length cap (by first | exact HM1.out.drew | exact HM1.out) hr).mono ?_; rintro e w2 ⟨rfl,hb2⟩; have q0 := (hb2.block _ (by first | exact h1 | simpa using h1)).trans HM1.out.drew.blk; have q1 := (hb2.cell (p := ⟨mb,1,none⟩) (by first | exact h1 | simpa using h1)).trans f1; have q2 := (hb2.cell (p := ⟨g,r.length * 3 + 2,none⟩) (by first | exact hg2 | simpa using hg2)).trans t2; have qf := free_block q0; have s1 := Nat.lt_of_lt_of_le h1 hb2.size; have s2 := Nat.lt_of_lt_of_le hg2 hb2.size; have s3 := Nat.lt_of_lt_of_le p5 hb2.size; have HB2 := hide hb2; clear hb2 q0))
  all_goals
    have HP := hide ((HM1.out.drew.below HB2.out).putStack (grown_refl w2 _) (.slice (some ⟨d,0,none⟩) x.base dc) (q.drop (q.length - x.base)) (by
      have := owns_cut (HM1.out.drew.below HB2.out).stk x.base hbq
      simp only [Nat.mul_one] at this
      rw [stCells_drop q x.base hbq] at this
      have hlen : (q.drop (q.length - x.base)).length = x.base := by simp; omega
      rw [hlen]; exact this) (fun k e => Or.inl e))
    generalize hw3 : w2.setCell ⟨mb,1,none⟩ (.slice (some ⟨d,0,none⟩) x.base dc) = w3 at HP ⊢
    have HB3 := hide (HB.out.trans ((below_drew HB2.out (by omega) HM1.out.tlt).trans HP.out.1))
    have HM3 := hide HP.out.2
    clear hw3 HP
    obtain ⟨g',cap',hh,_,k2,_,_,_,k6,u0,u1,u2⟩ := HM3.out.top x r HX.out
    simp only [Value.slice.injEq,Option.some.injEq,Addr.mk.injEq] at hh
    obtain ⟨⟨rfl,_⟩,_,rfl⟩ := hh
    obtain ⟨v0,v1,v2,v3,v4⟩ := HM3.out.field
    have vf := free_block HM3.out.blk
    have vl := HM3.out.lt
    clear f0 f1 f2 f3 f4 t0 t1 t2 q1 q2 qf s1 s2 s3 p4 g0 hg6
    go_wp2
    go_region
    all_goals
      have HQ := hide (HM3.out.putFrames (grown_refl w3 _) (.slice (some ⟨g,0,none⟩) r.length cap) r (by
        have hfr := HM3.out.frm
        simp only [HX.out,fmCells_cons,List.length_cons] at hfr
        have := owns_cut hfr r.length (by omega)
        rw [List.take_left' (fmCells_len fb r)] at this
        exact this) (fun k e => Or.inl e))
      try go_wp2_with fail
      refine (push_any B mb ib fb _ _ _ _ (by exact HQ.out.2.drew) y (by show (q.drop _).length ≤ _; simp; omega)).mono ?_
      rintro e w5 ⟨rfl,hw⟩
      have HW := hide (Went.trans (HB3.out.trans HQ.out.1.drew) hw)
      clear hw
      go_wp2
      go_end0
      exact ⟨rfl,HW.out⟩
end Go.Proofs.YtpmmjkiclngpmaaGreatDoor
namespace Go.Proofs.YtpmmjkiclngpmaaGreatDoor
open Go.RowKit
theorem info_frame : (Tryz.prog.info? 189).map (fun i => (i.zero,i.size,i.bytes)) = some (some (.agg #[.pointer none,.int .i64 0,.int .i64 0]),3,24) := by kernel_rfl
theorem new3_cellsM (w : World) (a b c : Value) (t : TypeId) : ∀ j u,[a,b,c][j]? = some u → (w.alloc (.cells #[a,b,c] t)).cell? ((⟨w.heap.size,0,none⟩ : Addr).add j) = some u := by
  intro j u hj
  match j,hj with
  | 0,hj => simp at hj; subst hj; simp [Addr.add]
  | 1,hj => simp at hj; subst hj; simp [Addr.add]
  | 2,hj => simp at hj; subst hj; simp [Addr.add]
theorem grown_drew {w w' : World} {r : Option Nat} (h : w.drew.grownBy w' r) : w.grownBy w' r := ⟨h.os,h.tape,h.output,h.size,h.block⟩
theorem call_fuel (B : Bd) (mb ib fb : Nat) (sv fv : Value) (s : MS) (w : World) (h : Mc B mb ib fb sv fv s w) (h0 : s.fuel = 0) (k : Nat) :
    Calls Tryz.prog 63 #[.pointer (some ⟨mb,0,none⟩),.int .i64 k] w fun e w' =>
      e = .returned (.tuple #[]) ∧ Went B mb ib fb w { s with wrong := 11 } w' := by
  obtain ⟨f0,f1,f2,f3,f4⟩ := h.field
  have g0 := free_block h.blk
  have h1 := h.lt
  have HP := hide (h.putWrong 11 11 rfl)
  clear h
  rw [h0] at f3
  clear h0
  go_enter Tryz.func63,Tryz.ntmps63
  go_wp2
  refine bodyPost_ret (v := .tuple #[]) (by simp [results,Tryz.results63,go_sem]) rfl ?_
  exact ⟨rfl,Went.mk HP.out⟩
theorem call_depth (B : Bd) (mb ib fb : Nat) (sv fv : Value) (s : MS) (w : World) (h : Mc B mb ib fb sv fv s w) (h0 : ¬ s.fuel = 0) (hf : s.fuel ≤ 1000000) (hd : s.frames.length = 100) (k : Nat) :
    Calls Tryz.prog 63 #[.pointer (some ⟨mb,0,none⟩),.int .i64 k] w fun e w' =>
      e = .returned (.tuple #[]) ∧ Went B mb ib fb w { s with wrong := 13 } w' := by
  obtain ⟨f0,f1,f2,f3,f4⟩ := h.field
  have g0 := free_block h.blk
  have h1 := h.lt
  obtain ⟨go,gc,rfl⟩ := owns_shape' h.frm
  rw [hd] at f2
  have HP := hide (h.putWrong 13 13 rfl)
  clear h
  have e0 : ((s.fuel : Int) == 0) = false := by simp; omega
  go_enter Tryz.func63,Tryz.ntmps63
  go_wp2
  refine bodyPost_ret (v := .tuple #[]) (by simp [results,Tryz.results63,go_sem]) rfl ?_
  exact ⟨rfl,Went.mk HP.out⟩
theorem call_goes (B : Bd) (mb ib fb : Nat) (fs : List Fn) (sv fv : Value) (s : MS) (w : World) (h : Mc B mb ib fb sv fv s w) (hI : Ig B.lo ib fb fs w) (h0 : ¬ s.fuel = 0) (hf : s.fuel ≤ 1000000) (hd : s.frames.length < 100) (k : Nat) (hk : k < fs.length)
    (hp : fs[k].params ≤ s.stack.length) (hl : s.stack.length ≤ 10000000) :
    Calls Tryz.prog 63 #[.pointer (some ⟨mb,0,none⟩),.int .i64 k] w fun e w' =>
      e = .returned (.tuple #[]) ∧ Went B mb ib fb w ⟨List.replicate (fs[k].slots - fs[k].params) 0 ++ s.stack,⟨k,0,s.stack.length - fs[k].params⟩ :: s.frames,s.fuel - 1,s.wrong⟩ w' := by
  obtain ⟨f0,f1,f2,f3,f4⟩ := h.field
  have g0 := free_block h.blk
  have h1 := h.lt
  have h2 := h.low
  obtain ⟨go,gc,rfl⟩ := owns_shape' h.frm
  obtain ⟨so,sc,rfl⟩ := owns_shape' h.stk
  obtain ⟨i0,hi,hz0,hz1,hz2⟩ := info_parts info_frame
  obtain ⟨i3,hi3,hy0,hy1,hy2⟩ := info_parts info_int
  obtain ⟨hsm1,hsm2⟩ := hI.small
  obtain ⟨hc1,hc2,hc3⟩ := hsm2 fs[k] (List.getElem_mem hk)
  obtain ⟨icap,ir⟩ := hI.row
  obtain ⟨⟨po,pc,j1⟩,j2,cb,cc,j3,j4,j5⟩ := hI.funs k hk
  have hib := hI.i1
  have hfb := hI.i2
  clear hsm2 j5
  generalize hF : fs[k] = F at *
  have HF := hide hF
  clear hF
  obtain ⟨bs,hbs⟩ : ∃ bs : Nat,s.stack.length - F.params = bs := ⟨_,rfl⟩
  obtain ⟨m,hm⟩ : ∃ m : Nat,F.slots - F.params = m := ⟨_,rfl⟩
  have e1 : IntKind.i64.wrap ((s.stack.length : Int) - F.params) = (bs : Int) := by rw [wrap_id _ (by omega) (by omega)]; omega
  have e2 : IntKind.i64.wrap ((F.slots : Int) - F.params) = (m : Int) := by rw [wrap_id _ (by omega) (by omega)]; omega
  have e3 : ((s.fuel : Int) == 0) = false := by simp; omega
  have e4 : ((s.frames.length : Int) == 100) = false := by simp; omega
  rw [hbs,hm]
  have HP := hide (h.putFuel (s.fuel - 1) ((s.fuel : Int) - 1) (by omega))
  clear h
  go_enter Tryz.func63,Tryz.ntmps63
  go_wp2_with fail
  generalize hw1 : w.setCell ⟨mb,3,none⟩ (.int .i64 ((s.fuel : Int) - 1)) = w1 at HP ⊢
  have HB1 := hide HP.out.1
  have HM1 := hide HP.out.2
  have hI1 := hI.below HP.out.1.bel
  have HI := hide hI
  clear hw1 f0 f1 f2 f3 f4 j1 j2 j4 ir g0 HP hI h1
  obtain ⟨f0,f1,f2,f3,f4⟩ := HM1.out.field
  have g0 := free_block HM1.out.blk
  have h1 := HM1.out.lt
  obtain ⟨icap,ir⟩ := hI1.row
  obtain ⟨⟨po1,pc1,j1⟩,j2,cb1,cc1,j3',j4,j5⟩ := hI1.funs k hk
  clear j5 hI1
  rw [HF.out] at j1 j2 j4
  have b1 : s.frames.length + 1 ≤ maxLen := by unfold maxLen; omega
  have b2 : (s.frames.length + 1) * 24 ≤ 140737488355328 := by omega
  have hB1 : B.lo ≤ w1.heap.size := by omega
  go_cut [] (fun wx => Hid (Bel B w wx) ∧ ∃ fv',Hid (Mc B mb ib fb (.slice so s.stack.length sc) fv' ⟨s.stack,⟨k,0,bs⟩ :: s.frames,s.fuel - 1,s.wrong⟩ wx))
  case first =>
   go_region_law (refine step_app_where rfl (.tmp 44) (.tmp 58) 134 rfl B.lo 189 i0 (.agg #[.pointer none,.int .i64 0,.int .i64 0]) 3 24 Tryz.underlying134 hi hz0 hz1 hz2 rfl (by decide) (.slice go s.frames.length gc) s.frames.length (fmCells fb s.frames) (by simp [Act.eval,Act.put]) (HM1.out.drew.alloc _).frm ⟨w1.heap.size,0,none⟩ 1 1 [.pointer (some ⟨fb,k * 8,none⟩),.int .i64 0,.int .i64 bs] (by simp [Act.eval,Act.put]) rfl (new3_cellsM w1.drew _ _ _ _) (by intro u hu; simp at hu; rcases hu with rfl | rfl | rfl <;> rfl) b1 b2 (by simp; omega) ?_; intro v' w2 hown hgrow hwhere; obtain ⟨vo,vc,rfl⟩ := owns_shape' hown; have HG := hide (grown_drew (grown_alloc hgrow)); have HO := hide hown; have HW := hide hwhere; have hmk := (HG.out.block mb h1 (fun e => HM1.out.ne2 e.symm)).trans HM1.out.blk; have k0 := cell_block hmk 0; have k1 := cell_block hmk 1; have k2 := cell_block hmk 2; have kf := free_block hmk; have kl := lt_of_some hmk; simp at k0 k1 k2; clear hown hgrow hwhere hmk)
   all_goals
    have HQ := hide (HM1.out.putFrames HG.out (.slice vo (s.frames.length + 1) vc) (⟨k,0,bs⟩ :: s.frames) (by rw [fmCells_cons]; exact HO.out) (fun q e => (HW.out q e).imp id (fun h => by have h' : w1.heap.size + 1 ≤ q := (by simpa using h); omega)))
    (try go_wp2_with fail)
    go_meet
    exact ⟨(HB1.out.trans HQ.out.1),_,HQ.out.2⟩
  case rest =>
    obtain ⟨HBc,fv',HMc⟩ := hcut
    clear f0 f1 f2 f3 f4 g0 h1 j1 j2 j4 ir
    obtain ⟨f0,f1,f2,f3,f4⟩ := HMc.out.field
    have g0 := free_block HMc.out.blk
    have h1 := HMc.out.lt
    obtain ⟨⟨po1,pc1,j1⟩,j2,cb1,cc1,j3'',j4,j5⟩ := (HI.out.below HBc.out.bel).funs k hk
    clear j5
    rw [HF.out] at j1 j2 j4
    have c1 : s.stack.length + m ≤ maxLen := by unfold maxLen; omega
    have c2 : (s.stack.length + m) * 8 ≤ 140737488355328 := by omega
    have hBc : B.lo ≤ wc.heap.size := by omega
    have hlt4 : fb < wc.heap.size := by omega
    go_wp2_with fail
    go_region_law (refine step_app_zeros rfl (.tmp 66) (.tmp 76) 25 3 rfl B.lo 3 i3 Tryz.underlying25 Tryz.underlying3 hi3 hy0 hy1 hy2 (.slice so s.stack.length sc) s.stack.length (stCells s.stack) (by simp [Act.eval,Act.put]) HMc.out.drew.stk m m (by simp [Act.eval,Act.put]) rfl c1 c2 (by simp; omega) ?_; intro v' w2 hown hgrow hwhere; obtain ⟨vo,vc,rfl⟩ := owns_shape' hown; have HG := hide (grown_drew hgrow); have HO := hide hown; have HW := hide hwhere; have hmk := (HG.out.block mb h1 (fun e => HMc.out.ne1 e.symm)).trans HMc.out.blk; have k0 := cell_block hmk 0; have k1 := cell_block hmk 1; have k2 := cell_block hmk 2; have kf := free_block hmk; have kl := lt_of_some hmk; simp at k0 k1 k2; clear hown hgrow hwhere hmk)
    all_goals
      have HQ := hide (HMc.out.putStack HG.out (.slice vo (s.stack.length + m) vc) (List.replicate m 0 ++ s.stack) (by
        have := HO.out
        have e5 : stCells (List.replicate m 0 ++ s.stack) = stCells s.stack ++ List.replicate m (.int .i64 0) := by simp [stCells]
        rw [e5,List.length_append,List.length_replicate,Nat.add_comm m]; exact this) HW.out)
      (try go_wp2)
      go_end0
      exact ⟨rfl,Went.mk ⟨HBc.out.trans HQ.out.1,HQ.out.2⟩⟩
end Go.Proofs.YtpmmjkiclngpmaaGreatDoor
namespace Go.Proofs.YtpmmjkiclngpmaaGreatDoor
open Go.RowKit
def opFun : List Nat := [137,138,139,140,141,63,142,143,144,145,146,147,148,149,150]
structure Sm (s : MS) : Prop where
  st : s.stack.length ≤ 1000000
  fr : s.frames.length ≤ 100
  fu : s.fuel ≤ 1000000
  ba : ∀ x ∈ s.frames,x.base ≤ 1000000
def Does1 (B : Bd) (mb ib fb : Nat) (w : World) (t : MS) (e : Ending) (w' : World) : Prop := e = .returned (.tuple #[]) ∧ Went B mb ib fb w t w'
theorem exec_load {fs : List Fn} {v : Int} {x : Fr} {r : List Fr} {st : List Int} {fuel : Nat} {t : MS} (he : MS.exec fs 1 v x r st fuel = some t) :
    ∃ (k : Nat) (y : Int),(k : Int) = v ∧ st.reverse[x.base + k]? = some y ∧ ⟨y :: st,x :: r,fuel,0⟩ = t := by
  have he' : (if 0 ≤ v then (match st.reverse[x.base + v.toNat]? with | some y => some (⟨y :: st,x :: r,fuel,0⟩ : MS) | none => none) else none) = some t := he
  split at he'
  · next h0 =>
    split at he'
    · next y hy => exact ⟨v.toNat,y,by omega,hy,Option.some.inj he'⟩
    · cases he'
  · cases he'
theorem exec_store {fs : List Fn} {v : Int} {x : Fr} {r : List Fr} {st : List Int} {fuel : Nat} {t : MS} (he : MS.exec fs 2 v x r st fuel = some t) :
    ∃ (k : Nat) (y : Int) (q : List Int),(k : Int) = v ∧ y :: q = st ∧ x.base + k < q.length ∧ ⟨(q.reverse.set (x.base + k) y).reverse,x :: r,fuel,0⟩ = t := by
  have he' : (if 0 ≤ v then (match (generalizing := false) st with | y :: q => if x.base + v.toNat < q.length then some (⟨(q.reverse.set (x.base + v.toNat) y).reverse,x :: r,fuel,0⟩ : MS) else none | [] => none) else none) = some t := he
  split at he'
  · next h0 =>
    cases st with
    | nil => cases he'
    | cons y q =>
      dsimp only at he'
      split at he'
      · next h => exact ⟨v.toNat,y,q,by omega,rfl,h,Option.some.inj he'⟩
      · cases he'
  · cases he'
theorem exec_jump {fs : List Fn} {v : Int} {x : Fr} {r : List Fr} {st : List Int} {fuel : Nat} {t : MS} (he : MS.exec fs 3 v x r st fuel = some t) :
    ∃ (k : Nat),(k : Int) = v ∧ ⟨st,{ x with next := k } :: r,fuel,0⟩ = t := by
  have he' : (if 0 ≤ v then some (⟨st,{ x with next := v.toNat } :: r,fuel,0⟩ : MS) else none) = some t := he
  split at he'
  · next h0 => exact ⟨v.toNat,by omega,Option.some.inj he'⟩
  · cases he'
theorem exec_unless {fs : List Fn} {v : Int} {x : Fr} {r : List Fr} {st : List Int} {fuel : Nat} {t : MS} (he : MS.exec fs 4 v x r st fuel = some t) :
    ∃ (k : Nat) (y : Int) (q : List Int),(k : Int) = v ∧ y :: q = st ∧ ⟨q,x.unl y k :: r,fuel,0⟩ = t := by
  have he' : (if 0 ≤ v then (match (generalizing := false) st with | y :: q => some (⟨q,x.unl y v.toNat :: r,fuel,0⟩ : MS) | [] => none) else none) = some t := he
  split at he'
  · next h0 =>
    cases st with
    | nil => cases he'
    | cons y q => exact ⟨v.toNat,y,q,by omega,rfl,Option.some.inj he'⟩
  · cases he'
theorem exec_call {fs : List Fn} {v : Int} {x : Fr} {r : List Fr} {st : List Int} {fuel : Nat} {t : MS} (he : MS.exec fs 5 v x r st fuel = some t) :
    ∃ (k : Nat),(k : Int) = v ∧ MS.call fs k ⟨st,x :: r,fuel,0⟩ = some t := by
  have he' : (if 0 ≤ v then MS.call fs v.toNat ⟨st,x :: r,fuel,0⟩ else none) = some t := he
  split at he'
  · next h0 => exact ⟨v.toNat,by omega,he'⟩
  · cases he'
theorem exec_back {fs : List Fn} {v : Int} {x : Fr} {r : List Fr} {st : List Int} {fuel : Nat} {t : MS} (he : MS.exec fs 6 v x r st fuel = some t) :
    ∃ (y : Int) (q : List Int),y :: q = st ∧ x.base ≤ q.length ∧ ⟨y :: q.drop (q.length - x.base),r,fuel,0⟩ = t := by
  have he' : (match (generalizing := false) st with | y :: q => if x.base ≤ q.length then some (⟨y :: q.drop (q.length - x.base),r,fuel,0⟩ : MS) else none | [] => none) = some t := he
  cases st with
  | nil => cases he'
  | cons y q =>
    dsimp only at he'
    split at he'
    · next h => exact ⟨y,q,rfl,h,Option.some.inj he'⟩
    · cases he'
theorem exec_un {fs : List Fn} {op : Nat} {v : Int} {x : Fr} {r : List Fr} {st : List Int} {fuel : Nat} {t : MS} (he : MS.exec fs op v x r st fuel = some t) (ho : op = 13 ∨ op = 14) :
    ∃ (a : Int) (q : List Int),a :: q = st ∧ ⟨un1 op a :: q,x :: r,fuel,0⟩ = t := by
  have he' : (match (generalizing := false) st with | a :: q => some (⟨un1 op a :: q,x :: r,fuel,0⟩ : MS) | [] => none) = some t := by
    rcases ho with rfl | rfl <;> exact he
  cases st with
  | nil => cases he'
  | cons y q => exact ⟨y,q,rfl,Option.some.inj he'⟩
theorem exec_div {fs : List Fn} {v : Int} {x : Fr} {r : List Fr} {st : List Int} {fuel : Nat} {t : MS} (he : MS.exec fs 12 v x r st fuel = some t) :
    ∃ (a b : Int) (q : List Int),b :: a :: q = st ∧ ((0 = b ∧ ⟨q,x :: r,fuel,12⟩ = t) ∨ (¬ b = 0 ∧ ⟨bin2 12 a b :: q,x :: r,fuel,0⟩ = t)) := by
  have he' : (match (generalizing := false) st with | b :: a :: q => if (12 = 12 ∧ b = 0) then some (⟨q,x :: r,fuel,12⟩ : MS) else some ⟨bin2 12 a b :: q,x :: r,fuel,0⟩ | _ => none) = some t := he
  match st,he' with
  | b :: a :: q,he' =>
    refine ⟨a,b,q,rfl,?_⟩
    dsimp only at he'
    split at he'
    · next h => exact Or.inl ⟨h.2.symm,Option.some.inj he'⟩
    · next h => exact Or.inr ⟨fun e => h ⟨rfl,e⟩,Option.some.inj he'⟩
theorem exec_bin {fs : List Fn} {op : Nat} {v : Int} {x : Fr} {r : List Fr} {st : List Int} {fuel : Nat} {t : MS} (he : MS.exec fs op v x r st fuel = some t) (h7 : 7 ≤ op) (h12 : op < 12) :
    ∃ (a b : Int) (q : List Int),b :: a :: q = st ∧ ⟨bin2 op a b :: q,x :: r,fuel,0⟩ = t := by
  have he' : (match (generalizing := false) st with | b :: a :: q => if op = 12 ∧ b = 0 then some (⟨q,x :: r,fuel,12⟩ : MS) else some ⟨bin2 op a b :: q,x :: r,fuel,0⟩ | _ => none) = some t := by
    rw [← he]; unfold MS.exec
    simp only [show ¬ op = 0 by omega,show ¬ op = 1 by omega,show ¬ op = 2 by omega,show ¬ op = 3 by omega,show ¬ op = 4 by omega,show ¬ op = 5 by omega,show ¬ op = 6 by omega,show ¬ (op = 13 ∨ op = 14) by omega,show op < 13 by omega,if_false,if_true]
    rfl
  match st,he' with
  | b :: a :: q,he' =>
    refine ⟨a,b,q,rfl,?_⟩
    dsimp only at he'
    rw [if_neg (by omega)] at he'
    exact Option.some.inj he'
theorem call_any (B : Bd) (mb ib fb : Nat) (fs : List Fn) (sv fv : Value) (s : MS) (w : World) (h : Mc B mb ib fb sv fv s w) (hI : Ig B.lo ib fb fs w) (hs : Sm s) (k : Nat) (t : MS) (hc : MS.call fs k s = some t) :
    Calls Tryz.prog 63 #[.pointer (some ⟨mb,0,none⟩),.int .i64 k] w (Does1 B mb ib fb w t) := by
  have h1 := hs.st
  have h3 := hs.fu
  unfold MS.call at hc
  split at hc
  · next h0 => obtain rfl := Option.some.inj hc; exact call_fuel B mb ib fb sv fv s w h h0 k
  · next h0 =>
    split at hc
    · next hd => obtain rfl := Option.some.inj hc; exact call_depth B mb ib fb sv fv s w h h0 h3 hd k
    · next hd =>
      split at hc
      · cases hc
      · next F hF =>
        split at hc
        · next hp =>
          obtain rfl := Option.some.inj hc
          obtain ⟨hk,e⟩ := List.getElem?_eq_some_iff.1 hF
          subst e
          have hfr := hs.fr
          exact call_goes B mb ib fb fs sv fv s w h hI h0 h3 (by omega) k hk hp (by omega)
        · cases hc
theorem exec_any (B : Bd) (mb ib fb : Nat) (fs : List Fn) (sv fv : Value) (st : List Int) (x : Fr) (r : List Fr) (fuel : Nat) (w : World) (h : Mc B mb ib fb sv fv ⟨st,x :: r,fuel,0⟩ w) (hI : Ig B.lo ib fb fs w) (hs : Sm ⟨st,x :: r,fuel,0⟩)
    (op : Nat) (v : Int) (t : MS) (he : MS.exec fs op v x r st fuel = some t) (K : Nat) (hK : opFun[op]? = some K) :
    Calls Tryz.prog K #[.pointer (some ⟨mb,0,none⟩),.int .i64 v] w (Does1 B mb ib fb w t) := by
  have h1 := hs.st
  have h2 := hs.fr
  have h3 := hs.fu
  have h4 := hs.ba x (by simp)
  simp only [List.length_cons] at h1 h2 h3 h4
  match op,hK with
  | 0,hK =>
    obtain rfl : _ = K := by simpa [opFun] using hK
    simp [MS.exec] at he; subst he
    exact push_any B mb ib fb sv fv _ w h v (by show st.length ≤ _; omega)
  | 1,hK =>
    obtain rfl : _ = K := by simpa [opFun] using hK
    obtain ⟨k,y,rfl,hy,rfl⟩ := exec_load he
    have hk : x.base + k < st.length := by have := (List.getElem?_eq_some_iff.1 hy).1; simpa using this
    exact load_any B mb ib fb sv fv _ w h x r rfl (by omega) k (by omega) (by omega) y hy (by show st.length ≤ _; omega)
  | 2,hK =>
    obtain rfl : _ = K := by simpa [opFun] using hK
    obtain ⟨k,y,q,rfl,rfl,hy,rfl⟩ := exec_store he
    simp only [List.length_cons] at h1
    exact store_any B mb ib fb sv fv _ w h x r rfl (by omega) k (by omega) (by omega) y q rfl hy (by omega)
  | 3,hK =>
    obtain rfl : _ = K := by simpa [opFun] using hK
    obtain ⟨k,rfl,rfl⟩ := exec_jump he
    exact jump_any B mb ib fb sv fv _ w h x r rfl (by omega) k
  | 4,hK =>
    obtain rfl : _ = K := by simpa [opFun] using hK
    obtain ⟨k,y,q,rfl,rfl,rfl⟩ := exec_unless he
    simp only [List.length_cons] at h1
    exact unless_any B mb ib fb sv fv _ w h x r rfl (by omega) y q rfl (by omega) k
  | 5,hK =>
    obtain rfl : _ = K := by simpa [opFun] using hK
    obtain ⟨k,rfl,hc⟩ := exec_call he
    exact call_any B mb ib fb fs sv fv _ w h hI hs k t hc
  | 6,hK =>
    obtain rfl : _ = K := by simpa [opFun] using hK
    obtain ⟨y,q,rfl,hq,rfl⟩ := exec_back he
    simp only [List.length_cons] at h1
    exact giveBack_any B mb ib fb sv fv _ w h x r rfl (by omega) (by omega) y q rfl hq (by omega) v
  | 7,hK =>
    obtain rfl : _ = K := by simpa [opFun] using hK
    obtain ⟨a,b,q,rfl,rfl⟩ := exec_bin he (by decide) (by decide)
    exact less_any B mb ib fb sv fv _ w h a b q rfl (by simp only [List.length_cons] at h1; omega) v
  | 8,hK =>
    obtain rfl : _ = K := by simpa [opFun] using hK
    obtain ⟨a,b,q,rfl,rfl⟩ := exec_bin he (by decide) (by decide)
    exact equal_any B mb ib fb sv fv _ w h a b q rfl (by simp only [List.length_cons] at h1; omega) v
  | 9,hK =>
    obtain rfl : _ = K := by simpa [opFun] using hK
    obtain ⟨a,b,q,rfl,rfl⟩ := exec_bin he (by decide) (by decide)
    exact add_any B mb ib fb sv fv _ w h a b q rfl (by simp only [List.length_cons] at h1; omega) v
  | 10,hK =>
    obtain rfl : _ = K := by simpa [opFun] using hK
    obtain ⟨a,b,q,rfl,rfl⟩ := exec_bin he (by decide) (by decide)
    exact subtract_any B mb ib fb sv fv _ w h a b q rfl (by simp only [List.length_cons] at h1; omega) v
  | 11,hK =>
    obtain rfl : _ = K := by simpa [opFun] using hK
    obtain ⟨a,b,q,rfl,rfl⟩ := exec_bin he (by decide) (by decide)
    exact multiply_any B mb ib fb sv fv _ w h a b q rfl (by simp only [List.length_cons] at h1; omega) v
  | 12,hK =>
    obtain rfl : _ = K := by simpa [opFun] using hK
    obtain ⟨a,b,q,rfl,hz⟩ := exec_div he
    simp only [List.length_cons] at h1
    rcases hz with ⟨rfl,rfl⟩ | ⟨hb,rfl⟩
    · exact divide_zero B mb ib fb sv fv _ w h a q rfl (by omega) v
    · exact divide_any B mb ib fb sv fv _ w h a b q rfl (by omega) v hb
  | 13,hK =>
    obtain rfl : _ = K := by simpa [opFun] using hK
    obtain ⟨a,q,rfl,rfl⟩ := exec_un he (Or.inl rfl)
    exact negate_any B mb ib fb sv fv _ w h a q rfl (by simp only [List.length_cons] at h1; omega) v
  | 14,hK =>
    obtain rfl : _ = K := by simpa [opFun] using hK
    obtain ⟨a,q,rfl,rfl⟩ := exec_un he (Or.inr rfl)
    exact not_any B mb ib fb sv fv _ w h a q rfl (by simp only [List.length_cons] at h1; omega) v
  | n + 15,hK => simp [opFun] at hK
theorem exec_lt {fs : List Fn} {op : Nat} {v : Int} {x : Fr} {r : List Fr} {st : List Int} {fuel : Nat} {t : MS} (he : MS.exec fs op v x r st fuel = some t) : op < 15 := by
  rcases Nat.lt_or_ge op 15 with h | h
  · exact h
  · unfold MS.exec at he
    simp only [show ¬ op = 0 by omega,show ¬ op = 1 by omega,show ¬ op = 2 by omega,show ¬ op = 3 by omega,show ¬ op = 4 by omega,show ¬ op = 5 by omega,show ¬ op = 6 by omega,show ¬ (op = 13 ∨ op = 14) by omega,show ¬ op < 13 by omega,if_false] at he
    cases he
structure Iv (s : MS) : Prop where
  fr : s.frames.length ≤ 100
  fu : s.fuel ≤ 1000000
  ba : ∀ x ∈ s.frames,x.base ≤ 1000000
theorem exec_keeps {fs : List Fn} {op : Nat} {v : Int} {x : Fr} {r : List Fr} {st : List Int} {fuel : Nat} {t : MS} (he : MS.exec fs op v x r st fuel = some t) (hs : st.length ≤ 1000000) (hi : Iv ⟨st,x :: r,fuel,0⟩) : Iv t := by
  have hlt := exec_lt he
  have same : ∀ (q : List Int) (n : Nat),Iv ⟨q,x :: r,fuel,n⟩ := fun q n => ⟨hi.fr,hi.fu,hi.ba⟩
  have next : ∀ (q : List Int) (k : Nat),Iv ⟨q,{ x with next := k } :: r,fuel,0⟩ := fun q k => ⟨hi.fr,hi.fu,fun y hy => by
    rcases List.mem_cons.1 hy with rfl | hy
    · exact hi.ba x (by simp)
    · exact hi.ba y (by simp [hy])⟩
  match op,hlt with
  | 0,_ => simp [MS.exec] at he; subst he; exact same _ _
  | 1,_ => obtain ⟨k,y,rfl,hy,rfl⟩ := exec_load he; exact same _ _
  | 2,_ => obtain ⟨k,y,q,rfl,rfl,hy,rfl⟩ := exec_store he; exact same _ _
  | 3,_ => obtain ⟨k,rfl,rfl⟩ := exec_jump he; exact next _ _
  | 4,_ =>
    obtain ⟨k,y,q,rfl,rfl,rfl⟩ := exec_unless he
    unfold Fr.unl
    split
    · exact next _ _
    · exact same _ _
  | 5,_ =>
    obtain ⟨k,rfl,hc⟩ := exec_call he
    unfold MS.call at hc
    split at hc
    · obtain rfl := Option.some.inj hc; exact same _ _
    · split at hc
      · obtain rfl := Option.some.inj hc; exact same _ _
      · next hd =>
        split at hc
        · cases hc
        · split at hc
          · obtain rfl := Option.some.inj hc
            refine ⟨?_,?_,?_⟩
            · have := hi.fr; simp only [List.length_cons] at this hd ⊢; omega
            · have := hi.fu; simp only at this ⊢; omega
            · intro y hy
              rcases List.mem_cons.1 hy with rfl | hy
              · simp only; omega
              · exact hi.ba y hy
          · cases hc
  | 6,_ =>
    obtain ⟨y,q,rfl,hq,rfl⟩ := exec_back he
    exact ⟨by have := hi.fr; simp only [List.length_cons] at this ⊢; omega,hi.fu,fun z hz => hi.ba z (by simp [hz])⟩
  | 7,_ => obtain ⟨a,b,q,rfl,rfl⟩ := exec_bin he (by decide) (by decide); exact same _ _
  | 8,_ => obtain ⟨a,b,q,rfl,rfl⟩ := exec_bin he (by decide) (by decide); exact same _ _
  | 9,_ => obtain ⟨a,b,q,rfl,rfl⟩ := exec_bin he (by decide) (by decide); exact same _ _
  | 10,_ => obtain ⟨a,b,q,rfl,rfl⟩ := exec_bin he (by decide) (by decide); exact same _ _
  | 11,_ => obtain ⟨a,b,q,rfl,rfl⟩ := exec_bin he (by decide) (by decide); exact same _ _
  | 12,_ =>
    obtain ⟨a,b,q,rfl,hz⟩ := exec_div he
    rcases hz with ⟨rfl,rfl⟩ | ⟨hb,rfl⟩ <;> exact same _ _
  | 13,_ => obtain ⟨a,q,rfl,rfl⟩ := exec_un he (Or.inl rfl); exact same _ _
  | 14,_ => obtain ⟨a,q,rfl,rfl⟩ := exec_un he (Or.inr rfl); exact same _ _
theorem step_inv {fs : List Fn} {s t : MS} (h : s.step fs = some t) : ∃ (x : Fr) (r : List Fr) (F : Fn) (op : Nat) (v : Int),s = ⟨s.stack,x :: r,s.fuel,0⟩ ∧ s.stack.length ≤ 1000000 ∧ fs[x.f]? = some F ∧ F.code[x.next]? = some (op,v) ∧ MS.exec fs op v { x with next := x.next + 1 } r s.stack s.fuel = some t := by
  unfold MS.step at h
  split at h
  · cases h
  · next x r hx =>
    split at h
    · next hw =>
      split at h
      · cases h
      · next F hF =>
        split at h
        · cases h
        · next op v hc =>
          refine ⟨x,r,F,op,v,?_,hw.2,hF,hc,h⟩
          cases s
          simp only at hx hw
          simp [hx,hw.1]
    · cases h
end Go.Proofs.YtpmmjkiclngpmaaGreatDoor
namespace Go.Proofs.YtpmmjkiclngpmaaGreatDoor
open Go.RowKit
def tabObj : Obj := .cells #[.func (.func 137) #[] #[],.func (.func 138) #[] #[],.func (.func 139) #[] #[],.func (.func 140) #[] #[],.func (.func 141) #[] #[],.func (.func 63) #[] #[],.func (.func 142) #[] #[],.func (.func 143) #[] #[],.func (.func 144) #[] #[],.func (.func 145) #[] #[],.func (.func 146) #[] #[],.func (.func 147) #[] #[],.func (.func 148) #[] #[],.func (.func 149) #[] #[],.func (.func 150) #[] #[]] 197 (0,0)
theorem op_calls {op K : Nat} (hK : opFun[op]? = some K) (a : Array Value) (w : World) : (callFunc K a).run Tryz.prog w = .ok (.enter K a) w := by
  match op,hK with
  | 0,hK => obtain rfl : _ = K := (by simpa [opFun] using hK); exact Tryz.call137 a w
  | 1,hK => obtain rfl : _ = K := (by simpa [opFun] using hK); exact Tryz.call138 a w
  | 2,hK => obtain rfl : _ = K := (by simpa [opFun] using hK); exact Tryz.call139 a w
  | 3,hK => obtain rfl : _ = K := (by simpa [opFun] using hK); exact Tryz.call140 a w
  | 4,hK => obtain rfl : _ = K := (by simpa [opFun] using hK); exact Tryz.call141 a w
  | 5,hK => obtain rfl : _ = K := (by simpa [opFun] using hK); exact Tryz.call63 a w
  | 6,hK => obtain rfl : _ = K := (by simpa [opFun] using hK); exact Tryz.call142 a w
  | 7,hK => obtain rfl : _ = K := (by simpa [opFun] using hK); exact Tryz.call143 a w
  | 8,hK => obtain rfl : _ = K := (by simpa [opFun] using hK); exact Tryz.call144 a w
  | 9,hK => obtain rfl : _ = K := (by simpa [opFun] using hK); exact Tryz.call145 a w
  | 10,hK => obtain rfl : _ = K := (by simpa [opFun] using hK); exact Tryz.call146 a w
  | 11,hK => obtain rfl : _ = K := (by simpa [opFun] using hK); exact Tryz.call147 a w
  | 12,hK => obtain rfl : _ = K := (by simpa [opFun] using hK); exact Tryz.call148 a w
  | 13,hK => obtain rfl : _ = K := (by simpa [opFun] using hK); exact Tryz.call149 a w
  | 14,hK => obtain rfl : _ = K := (by simpa [opFun] using hK); exact Tryz.call150 a w
  | n + 15,hK => simp [opFun] at hK
theorem tab_cell {w : World} {tb op K : Nat} (h : w.heap[tb]? = some tabObj) (hK : opFun[op]? = some K) : w.cell? ⟨tb,op,none⟩ = some (.func (.func K) #[] #[]) := by
  unfold tabObj at h
  rw [cell_block h,← Array.getElem?_toList]
  show (opFun.map (fun k => Value.func (.func k) #[] #[]))[op]? = _
  rw [List.getElem?_map,hK]; rfl
theorem steps_any (w : World) : Calls Tryz.prog 99 #[] w fun e w' => e = .returned (.slice (some ⟨w.heap.size,0,none⟩) 15 15) ∧ w' = w.alloc tabObj := by
  go_enter Tryz.func99,Tryz.ntmps99
  go_wp2
  go_ret
  exact ⟨rfl,rfl⟩
theorem Mc.retab {B : Bd} {mb ib fb : Nat} {sv fv : Value} {s : MS} {w : World} (h : Mc B mb ib fb sv fv s w) (o : Obj) : Mc ⟨B.lo,w.heap.size⟩ mb ib fb sv fv s (w.alloc o) := by
  have h' := h.alloc o
  refine ⟨h'.low,h'.blk,h'.stk,h'.frm,h'.ne1,h'.ne2,h'.ne3,by simp,by have := h.lt; intro e; simp at e; omega,fun e => ?_,fun e => ?_⟩
  · have := (owns_block h.stk _ e).2; simp at this
  · have := (owns_block h.frm _ e).2; simp at this
theorem work_any (B : Bd) (mb ib fb : Nat) (fs : List Fn) (sv fv : Value) (s t : MS) (w : World) (h : Mc B mb ib fb sv fv s w) (hI : Ig B.lo ib fb fs w) (n : Nat) (hn : StepsN fs n s t) (ht : t.wrong ≠ 0 ∨ t.frames = []) (hiv : Iv s) :
    Calls Tryz.prog 64 #[.pointer (some ⟨mb,0,none⟩)] w fun e w' =>
      e = .returned (.tuple #[]) ∧ Below B.lo w w' ∧ ∃ tb sv' fv',Mc ⟨B.lo,tb⟩ mb ib fb sv' fv' t w' := by
  have HM := hide h
  have HI := hide hI
  have HN := hide hn
  have HT := hide ht
  have HV := hide hiv
  clear h hI hn ht hiv
  go_enter Tryz.func64,Tryz.ntmps64
  go_wp2_with fail
  refine (steps_any _).mono ?_
  rintro e w1 ⟨rfl,hw1⟩
  have HM1 := hide (HM.out.retab tabObj)
  rw [← hw1] at HM1
  have HB1 := hide (show Below B.lo w w1 by rw [hw1]; exact (Below.refl _ _).alloc (by have := HM.out.lt; have := HM.out.low; omega) _)
  have HT1 := hide (show w1.heap[w.heap.size]? = some tabObj by rw [hw1]; exact block_new _ _)
  clear hw1
  generalize htb : w.heap.size = tb at *
  have HTB := hide htb
  clear htb
  go_wp2
  go_loopg [20] n (fun k _ wr => ∃ (s : MS) (sv fv : Value),Hid (StepsN fs k s t) ∧ Hid (Mc ⟨B.lo,tb⟩ mb ib fb sv fv s wr) ∧ Hid (Bel ⟨B.lo,tb⟩ w1 wr) ∧ Hid (Iv s))
  case atStart => exact ⟨s,sv,fv,HN.out,HM1.out,Bel.refl _ _,HV.out⟩
  case round =>
    obtain ⟨s,sv,fv,HS,HMr,HBr,HVr⟩ := hrel
    obtain ⟨f0,f1,f2,f3,f4⟩ := HMr.out.field
    have h1 := HMr.out.lt
    rcases Nat.eq_zero_or_pos gk with hg | hg
    · have hst : s = t := by have := HS.out; rw [hg] at this; exact this
      subst hst
      rcases hw : ((s.wrong : Int) == 0) with _ | _
      · go_wp2
        go_end0
        exact ⟨rfl,HB1.out.trans HBr.out.bel,tb,sv,fv,HMr.out⟩
      · have hf0 : s.frames = [] := by
          rcases HT.out with h | h
          · simp at hw; omega
          · exact h
        obtain ⟨go,gc,rfl⟩ := owns_shape' HMr.out.frm
        rw [hf0] at f2
        have f2' : wr.cell? ⟨mb,2,none⟩ = some (.slice go 0 gc) := f2
        clear f2 hf0
        go_wp2
        go_end0
        exact ⟨rfl,HB1.out.trans HBr.out.bel,tb,sv,_,HMr.out⟩
    · obtain ⟨k,rfl⟩ : ∃ k,gk = k + 1 := ⟨gk - 1,by omega⟩
      obtain ⟨u,hu,hrest⟩ := HS.out
      obtain ⟨x,r,F,op,v,hs,hsl,hF,hc,he⟩ := step_inv hu
      clear hu
      obtain ⟨st,frs,fuel,wr0⟩ := s
      simp only [MS.mk.injEq] at hs
      obtain ⟨_,rfl,_,rfl⟩ := hs
      simp only at hsl he f3 f4
      obtain ⟨g,cap,rfl,hg1,hg2,hg3,hg4,hg5,hg6,t0,t1,t2⟩ := HMr.out.top x r rfl
      have hfr := HVr.out.fr
      simp only [List.length_cons] at hfr
      have HR := hide hrest
      have HE := hide he
      have HVn := hide (exec_keeps he hsl ⟨HVr.out.fr,HVr.out.fu,fun y hy => by
        rcases List.mem_cons.1 hy with rfl | hy
        · exact HVr.out.ba x (by simp)
        · exact HVr.out.ba y (by simp [hy])⟩)
      clear hrest he
      have f4' : wr.cell? ⟨mb,4,none⟩ = some (.int .i64 0) := f4
      clear f4
      go_wp2_with fail
      refine (frame_any ⟨B.lo,tb⟩ mb ib fb sv _ wr g r.length cap HMr.out (by omega)).mono ?_
      rintro e w2 ⟨rfl,hb⟩
      have HM2 := hide (HMr.out.below hb)
      have HB2 := hide (HBr.out.trans (Bel.of (B := ⟨B.lo,tb⟩) hb (by have := HMr.out.low; simp only at this ⊢; omega) HMr.out.tlt))
      clear hb f0 f1 f2 f3 f4' t0 t1 t2 hg6 h1
      obtain ⟨g',cap',hh,_,k2,_,_,_,k6,t0,t1,t2⟩ := HM2.out.top x r rfl
      simp only [Value.slice.injEq,Option.some.injEq,Addr.mk.injEq] at hh
      obtain ⟨⟨rfl,_⟩,_,rfl⟩ := hh
      have hI2 := (HI.out.below HB1.out).below HB2.out.bel
      obtain ⟨hk,hFk⟩ := List.getElem?_eq_some_iff.1 hF
      obtain ⟨⟨po1,pc1,j1⟩,j2,cb1,cc1,j3,j4,j5⟩ := hI2.funs x.f hk
      obtain ⟨hsm1,hsm2⟩ := hI2.small
      obtain ⟨hc1,hc2,hc3⟩ := hsm2 fs[x.f] (List.getElem_mem hk)
      rw [hFk] at j4 j5 hc1
      obtain ⟨hnx,hin⟩ := List.getElem?_eq_some_iff.1 hc
      obtain ⟨j6,j7⟩ := j5 x.next hnx
      rw [hin] at j6 j7
      simp only at j6 j7
      have hib := hI2.i2
      have hlo := HM2.out.low
      simp only at hlo hib
      have hml := HM2.out.lt
      have hfb2 : fb < w2.heap.size := by omega
      have hcb2 : cb1 < w2.heap.size := by omega
      clear j1 j2 j5 hsm2 hI2 hc hF
      go_wp2_with fail
      go_cut [4] (fun s4 wx => s4 = .pointer (some ⟨w2.heap.size,0,none⟩) ∧ wx = (w2.alloc (.cells #[.int .i64 op,.int .i64 v] 196)).drew)
      case first =>
        go_region
        all_goals
          (try go_wp2_with fail)
          go_meet
          exact ⟨rfl,rfl⟩
      case rest =>
        obtain ⟨rfl,rfl⟩ := hcut
        have HP := hide (HM2.out.putNext x r rfl (x.next + 1) ((x.next : Int) + 1) (by omega))
        have HM3 := hide (HP.out.2.alloc (.cells #[.int .i64 op,.int .i64 v] 196)).drew
        have HIn := hide (block_new (w2.setCell ⟨g,r.length * 3 + 1,none⟩ (.int .i64 ((x.next : Int) + 1))) (.cells #[.int .i64 op,.int .i64 v] 196))
        have hsz3 : (w2.setCell ⟨g,r.length * 3 + 1,none⟩ (.int .i64 ((x.next : Int) + 1))).heap.size = w2.heap.size := by simp [World.setCell]
        rw [hsz3] at HIn
        have HB3 := hide (HB2.out.trans ((HP.out.1.alloc (by rw [hsz3]; simp only; omega) (by rw [hsz3]; exact HM2.out.tlt) (.cells #[.int .i64 op,.int .i64 v] 196)).drew))
        go_upto_region 5 with fail
        generalize hw3 : ((w2.setCell ⟨g,r.length * 3 + 1,none⟩ (.int .i64 ((x.next : Int) + 1))).alloc (.cells #[.int .i64 op,.int .i64 v] 196)).drew = w3 at HM3 HB3 ⊢
        have HIn3 := hide (show w3.heap[w2.heap.size]? = some (.cells #[.int .i64 op,.int .i64 v] 196 (0,0)) by rw [← hw3]; exact HIn.out)
        have HT3 := hide (HB3.out.tab.trans HT1.out)
        clear hw3 HP HIn
        have hop := exec_lt HE.out
        obtain ⟨K,hK⟩ : ∃ K,opFun[op]? = some K := ⟨_,List.getElem?_eq_getElem (by simpa [opFun] using hop)⟩
        have HK := hide hK
        have c0 := cell_block HIn3.out 0
        have c1 := cell_block HIn3.out 1
        have cs := lt_of_some HIn3.out
        have ct : w3.cell? ⟨tb,op,none⟩ = some (.func (.func K) #[] #[]) := tab_cell HT3.out HK.out
        have cts := lt_of_some HT3.out
        simp at c0 c1
        clear hK k6 t0 t1 t2 j4 j6 j7
        have hcall := op_calls HK.out
        have hsm : Sm ⟨st,{ x with next := x.next + 1 } :: r,fuel,0⟩ := ⟨hsl,HVr.out.fr,HVr.out.fu,fun y hy => by
          rcases List.mem_cons.1 hy with rfl | hy
          · exact HVr.out.ba x (by simp)
          · exact HVr.out.ba y (by simp [hy])⟩
        have HSm := hide hsm
        have HI3 := hide ((HI.out.below HB1.out).below HB3.out.bel)
        clear hsm hk hFk hc1 hc2 hc3 hin hnx
        go_region_with (refine (exec_any ⟨B.lo,tb⟩ mb ib fb fs sv _ st { x with next := x.next + 1 } r fuel _ (by exact HM3.out.drew) (by exact HI3.out.below ((Below.refl _ _).drew)) HSm.out op v u HE.out K HK.out).mono ?_; rintro e w4 ⟨rfl,hw⟩; have HW := hide hw; clear hw)
        all_goals
          go_wp2
          go_roundg k
          case measure => omega
          case rel =>
            obtain ⟨sv4,fv4,hm4⟩ := HW.out.2
            exact ⟨u,sv4,fv4,HR.out,hm4,HB3.out.drew.trans HW.out.1,HVn.out⟩
end Go.Proofs.YtpmmjkiclngpmaaGreatDoor
namespace Go.Proofs.YtpmmjkiclngpmaaGreatDoor
open Go.RowKit
theorem wpList_app_opt {P : Program} (w : World) {ops : Array Oper} {rest : List Oper} {o : Oper} {a : Act} {Q : Exit → Act → World → Prop}
    (hg : o.guard = none) (s x : Operand) (t : TypeId) (hop : o.op = Op.call { callee := Callee.builtin Builtin.append,args := #[s,x],argTypes := #[t,t] })
    (base : Nat) (e : TypeId) (i : TypeInfo) (z : Value) (size bytes : Nat) (h1 : P.underlying t = some (.slice e)) (h2 : P.info? e = some i) (h3 : i.zero = some z) (h4 : i.size = size) (h5 : i.bytes = bytes) (h6 : z.cells.size = size) (h7 : 0 < size)
    (v : Value) (n : Nat) (xs : List Value) (hs : a.eval s = v) (hown : w.ownsRow base e size v n xs)
    (ao : Option Addr) (m c : Nat) (news : List Value) (hx : a.eval x = .slice ao m c) (hn : news.length = m * size) (hnone : ao = none → m = 0 ∧ c = 0) (hc : ∀ ad,ao = some ad → ∀ j u,news[j]? = some u → w.cell? (ad.add j) = some u) (h1c : ∀ u ∈ news,u.oneCell' = true)
    (b1 : n + m ≤ maxLen) (b2 : (n + m) * bytes ≤ 140737488355328) (hbase : base ≤ w.heap.size)
    (hK : ∀ v' w',w'.ownsRow base e size v' (n + m) (xs ++ news) → w.grownBy w' v.ownBlock → (∀ k,v'.ownBlock = some k → v.ownBlock = some k ∨ w.heap.size ≤ k) → wpList P ops Q rest (a.put o.dst v') w') :
    wpList P ops Q (o :: rest) a w := by
  cases ao with
  | some ad =>
    refine wpList_plain hg fun K hK' => ?_
    obtain ⟨v',w',hrun,r1,r2,r3⟩ := run_app_where (P := P) w base t o.type e i z size bytes h1 h2 h3 h4 h5 h6 h7 v n xs hown ad m c news hn (hc ad rfl) h1c b1 b2 hbase
    unfold Oper.wp
    simp [execOp,hop,resolve,invoke,builtin,hs,hx,hrun,Result.andThen]
    exact hK' _ _ (hK v' w' r1 r2 r3)
  | none =>
    obtain ⟨rfl,rfl⟩ := hnone rfl
    have hnews : news = [] := List.eq_nil_of_length_eq_zero (by simpa using hn)
    subst hnews
    refine wpList_plain hg fun K hK' => ?_
    have hrun := run_append_owned_none (P := P) w base t o.type e i size h1 h2 _ n xs hown
    unfold Oper.wp
    simp [execOp,hop,resolve,invoke,builtin,hs,hx,hrun,Result.andThen]
    exact hK' _ _ (hK v w (by simpa using hown) (World.grownBy.refl _ _) (fun k hk => Or.inl hk))
def Args (w : World) (ao : Option Addr) (l : List Int) : Prop := (ao = none → l = []) ∧ ∀ ad,ao = some ad → ∀ j u,(l.map (Value.int .i64))[j]? = some u → w.cell? (ad.add j) = some u ∧ ad.block < w.heap.size
def outOf (t : MS) : Int × Nat := if t.wrong = 0 then (t.stack.headD 0,0) else (0,t.wrong)
theorem add_block (a : Addr) (j : Nat) : (a.add j).block = a.block := by
  unfold Addr.add; split <;> rfl
theorem stCells_rev (l : List Int) : stCells l.reverse = l.map (Value.int .i64) := by simp [stCells]
theorem Mc.new (w : World) (ib fb fuel : Nat) (hib : ib < w.heap.size) : Mc ⟨w.heap.size,ib⟩ w.heap.size ib fb (.slice none 0 0) (.slice none 0 0) ⟨[],[],fuel,0⟩ (w.alloc (.cells #[.pointer (some ⟨ib,0,none⟩),.slice none 0 0,.slice none 0 0,.int .i64 fuel,.int .i64 0] 136)) :=
  ⟨Nat.le_refl _,block_new _ _,World.ownsRow_nil _ _ _ _,World.ownsRow_nil _ _ _ _,by simp [Value.ownBlock],by simp [Value.ownBlock],by simp [Value.ownBlock],by simp; omega,by intro e; simp at e; omega,by simp [Value.ownBlock],by simp [Value.ownBlock]⟩
theorem call_keeps {fs : List Fn} {k : Nat} {st : List Int} {fuel : Nat} {t : MS} (h : MS.call fs k ⟨st,[],fuel,0⟩ = some t) (hf : fuel ≤ 1000000) (hs : st.length ≤ 1000000) : Iv t := by
  unfold MS.call at h
  split at h
  · obtain rfl := Option.some.inj h; exact ⟨by simp,hf,by simp⟩
  · split at h
    · obtain rfl := Option.some.inj h; exact ⟨by simp,hf,by simp⟩
    · split at h
      · cases h
      · split at h
        · obtain rfl := Option.some.inj h
          refine ⟨by simp,by simp only; omega,?_⟩
          intro x hx
          simp at hx
          subst hx
          simp only; omega
        · cases h
theorem mrun_any (ib fb : Nat) (fs : List Fn) (w : World) (hI : Ig w.heap.size ib fb fs w) (k : Nat) (ao : Option Addr) (c : Nat) (l : List Int) (hl : l.length ≤ 100000) (hcn : ao = none → c = 0) (ha : Args w ao l) (fuel : Nat) (hf : fuel ≤ 10000)
    (s1 t : MS) (h1 : MS.call fs k ⟨l.reverse,[],fuel,0⟩ = some s1) (n : Nat) (hn : StepsN fs n s1 t) (ht : t.wrong ≠ 0 ∨ t.frames = []) (htop : t.wrong = 0 → ∃ y q,t.stack = y :: q ∧ q.length ≤ 1000000) :
    Calls Tryz.prog 40 #[.pointer (some ⟨ib,0,none⟩),.int .i64 k,.slice ao l.length c,.int .i64 fuel] w fun e w' =>
      e = .returned (.tuple #[.int .i64 (outOf t).1,.int .i64 (outOf t).2]) ∧ Below w.heap.size w w' := by
  have HI := hide hI
  have HA := hide ha
  have HN := hide hn
  have HT := hide ht
  have HTop := hide htop
  have H1 := hide h1
  clear hI ha hn ht htop h1
  obtain ⟨i3,hi3,hy0,hy1,hy2⟩ := info_parts info_int
  go_enter Tryz.func40,Tryz.ntmps40
  go_wp2_with (at_builtin; refine wpList_app_opt _ rfl _ _ 25 rfl w.heap.size 3 i3 (.int .i64 0) 1 8 Tryz.underlying25 hi3 hy0 hy1 hy2 rfl (by decide) (.slice none 0 0) 0 [] rfl (World.ownsRow_nil _ _ _ _) ao l.length c (l.map (Value.int .i64)) rfl ?c0 ?c1 ?c2 ?c3 ?c4 ?c5 ?c6 ?_)
  case c0 => simp
  case c1 => intro e; exact ⟨by rw [HA.out.1 e]; rfl,hcn e⟩
  case c2 =>
    intro ad e j u hj
    obtain ⟨q1,q2⟩ := HA.out.2 ad e j u hj
    exact (World.cell?_of_block (Below.heap_alloc _ _ _ (by rw [add_block]; exact q2))).trans q1
  case c3 => intro u hu; simp at hu; obtain ⟨a,_,rfl⟩ := hu; rfl
  case c4 => unfold maxLen; omega
  case c5 => omega
  case c6 => simp
  intro v' w1 hown hgrow hwhere
  have HM0 := hide ((Mc.new w ib fb fuel HI.out.i1).putStack hgrow v' l.reverse (by rw [List.length_reverse,stCells_rev]; simpa using hown) (fun q e => (hwhere q e).imp id (fun h => by simpa using h)))
  have hmk : w1.heap[w.heap.size]? = _ := (hgrow.block w.heap.size (by simp) (by simp [Value.ownBlock])).trans (block_new w _)
  obtain ⟨vo,vc,rfl⟩ := owns_shape' hown
  have k1 := cell_block hmk 1
  have kf := free_block hmk
  have kl := lt_of_some hmk
  simp at k1
  have HB0 := hide (show Below w.heap.size w (w.alloc (.cells #[.pointer (some ⟨ib,0,none⟩),.slice none 0 0,.slice none 0 0,.int .i64 fuel,.int .i64 0] 136)) from (Below.refl _ _).alloc (Nat.le_refl _) _)
  clear hown hgrow hwhere hmk
  go_wp2_with fail
  have hsm : Sm ⟨l.reverse,[],fuel,0⟩ := ⟨by simp; omega,by simp,by simp only; omega,by simp⟩
  refine (call_any ⟨w.heap.size,ib⟩ w.heap.size ib fb fs _ _ _ _ HM0.out.2 (by exact (HI.out.below HB0.out).below HM0.out.1.bel) hsm k s1 H1.out).mono ?_
  rintro e w2 ⟨rfl,hb2,sv2,fv2,hm2⟩
  have HB2 := hide (HB0.out.trans (HM0.out.1.bel.trans hb2.bel))
  have HM2 := hide hm2
  clear hb2 hm2 k1 kf
  go_wp2_with fail
  refine (work_any ⟨w.heap.size,ib⟩ w.heap.size ib fb fs sv2 fv2 s1 t _ HM2.out (by exact HI.out.below HB2.out) n HN.out HT.out (call_keeps H1.out (by omega) (by simp; omega))).mono ?_
  rintro e w3 ⟨rfl,hb3,tb,sv3,fv3,hm3⟩
  have HB3 := hide (HB2.out.trans hb3)
  have HM3 := hide hm3
  obtain ⟨f0,f1,f2,f3,f4⟩ := hm3.field
  have f5 := hm3.lt
  clear hb3 hm3
  rcases hw : ((t.wrong : Int) != 0) with _ | _
  · have hw0 : t.wrong = 0 := by simp at hw; omega
    obtain ⟨y,q,hy,hq⟩ := HTop.out hw0
    have HO := hide (show outOf t = (y,0) by simp [outOf,hw0,hy])
    have HY := hide hy
    rw [hw0] at f4
    have f4' : w3.cell? ⟨w.heap.size,4,none⟩ = some (.int .i64 0) := f4
    clear f4 hw hw0 hy
    go_wp2_with fail
    refine (pop_any ⟨w.heap.size,tb⟩ w.heap.size ib fb sv3 fv3 t _ HM3.out y q HY.out (by omega)).mono ?_
    rintro e w4 ⟨rfl,hb,d,dc,hsv,hm⟩
    have HB4 := hide (HB3.out.trans hb.bel)
    clear hb hm hsv
    go_wp2
    go_ret2
    exact ⟨by rw [HO.out]; rfl,HB4.out⟩
  · have HO := hide (show outOf t = (0,t.wrong) by have : ¬ t.wrong = 0 := (by simp at hw; omega); simp [outOf,this])
    go_wp2
    go_region
    all_goals
      (try go_wp2)
      go_ret2
      exact ⟨by rw [HO.out]; rfl,HB3.out.drew⟩
end Go.Proofs.YtpmmjkiclngpmaaGreatDoor
