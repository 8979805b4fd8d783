/- YtpmmjkiclngpmaaGreatDoorB36 -/
import Derived.Test.YtpmmjkiclngpmaaGreatDoorB14
import Derived.Test.YtpmmjkiclngpmaaGreatDoorB15
set_option maxRecDepth 100000
set_option linter.unusedSimpArgs false
set_option linter.unusedVariables false
set_option maxHeartbeats 12800000
namespace Go.Proofs.YtpmmjkiclngpmaaGreatDoor
open Go.RowKit
theorem wpList_clearS {P : Program} (w : World) {ops : Array Oper} {rest : List Oper} {o : Oper} {a : Act} {Q : Exit → Act → World → Prop}
    (hg : o.guard = none) (m : Operand) (t : TypeId) (hop : o.op = Op.call { callee := Callee.builtin Builtin.clear,args := #[m],argTypes := #[t] })
    (e : TypeId) (z : Value) (ht : P.underlying t = some (.slice e)) (hv : ∀ w,(zeroValue e).run P w = .ok z w) (h1 : ∀ v ∈ z.cells.toList,v.oneCell' = true) (b off n c : Nat) (hn : 0 < n) (hm : a.eval m = .slice (some ⟨b,off,none⟩) n c)
    (hc : ∀ j,j < n * z.cells.size → (w.cell? ⟨b,off + j,none⟩).isSome = true) (hf : ∀ j,j < n * z.cells.size → w.frozen? ⟨b,off + j,none⟩ = false)
    (hK : ∀ vs,wpList P ops Q rest (a.put o.dst (.tuple #[])) (w.setCells b off vs)) :
    wpList P ops Q (o :: rest) a w := by
  refine wpList_plain hg fun K' hK' => ?_
  have hlen : (Builtin.zeroCells z.cells n).toList.length = n * z.cells.size := by simp [Builtin.zeroCells]
  have hone : ∀ v ∈ (Builtin.zeroCells z.cells n).toList,v.oneCell' = true := by
    intro v hv'
    simp only [Builtin.zeroCells,Array.toList_map,List.mem_map,Array.toList_range,List.mem_range] at hv'
    obtain ⟨i,hi,rfl⟩ := hv'
    have hpos : 0 < z.cells.size := by
      rcases Nat.eq_zero_or_pos z.cells.size with h | h
      · rw [h] at hi; omega
      · exact h
    have hlt := Nat.mod_lt i hpos
    rw [getElem!_pos z.cells (i % z.cells.size) hlt]
    exact h1 _ (by simp)
  have hst := run_storeCells_cells (P := P) b off (Builtin.zeroCells z.cells n).toList 0 w (by rw [hlen]; simpa using hc) (by rw [hlen]; simpa using hf) hone
  simp only [Nat.add_zero] at hst
  obtain ⟨m',rfl⟩ : ∃ m',n = m' + 1 := ⟨n - 1,by omega⟩
  unfold Oper.wp
  simp [execOp,hop,resolve,invoke,builtin,hm,Builtin.clear_,run_underlying ht,hv,hst,Result.andThen]
  exact hK' _ _ (hK _)
theorem RowU.owns {sf : Nm × Nm → List UInt8} {g cap lo : Nat} {l : List (Nm × Nm)} {w : World} (h : RowU sf g cap l w) (hg : lo ≤ g) (hc : l.length ≤ cap) (hm : cap ≤ maxLen) : w.ownsRow lo 185 3 (.slice (some ⟨g,0,none⟩) l.length cap) l.length (flatU sf l) := by
  obtain ⟨cur,a,b,c⟩ := h.blk
  exact ⟨flatU_len sf l,Or.inr ⟨g,cap,cur,rfl,hg,a,hc,hm,b,c⟩⟩
theorem RowU.take {sf : Nm × Nm → List UInt8} {g cap : Nat} {P r : List (Nm × Nm)} {w : World} (h : RowU sf g cap (P ++ r) w) : RowU sf g cap P w := by
  obtain ⟨cur,a,b,c⟩ := h.blk
  refine ⟨cur,a,b,?_⟩
  have := congrArg (List.take (P.length * 3)) c
  rw [List.take_take,Nat.min_eq_left (by rw [List.length_append]; omega),flatU_append,List.take_append_of_le_length (by rw [flatU_len]; exact Nat.le_refl _)] at this
  rw [this]
  exact List.take_of_length_le (by rw [flatU_len]; exact Nat.le_refl _)
def over (P l : List (Nm × Nm)) : List (Nm × Nm) := P ++ l.drop P.length
theorem over_len {P l : List (Nm × Nm)} (h : P.length ≤ l.length) : (over P l).length = l.length := by simp [over]; omega
theorem over_at {P l : List (Nm × Nm)} (j : Nat) (hj : j < l.length) (hP : P.length ≤ j) : (over P l)[j]? = some l[j] := by
  unfold over
  rw [List.getElem?_append_right hP,List.getElem?_drop,show P.length + (j - P.length) = j by omega,List.getElem?_eq_getElem hj]
theorem over_set {P l : List (Nm × Nm)} (h : P.length < l.length) (y : Nm × Nm) : (over P l).set P.length y = over (P ++ [y]) l := by
  unfold over
  rw [List.set_append_right _ _ (Nat.le_refl _),Nat.sub_self,List.drop_eq_getElem_cons h,List.set_cons_zero,List.append_assoc,List.length_append]
  rfl
theorem over_self (l : List (Nm × Nm)) (k : Nat) (hk : k ≤ l.length) : over (l.take k) l = l := by
  unfold over
  rw [List.length_take,Nat.min_eq_left hk,List.take_append_drop]
structure Turned1 (g : Nat) (w w' : World) : Prop where
  os : w'.os = w.os
  tape : w'.tape = w.tape
  output : w'.output = w.output
  size : w.heap.size ≤ w'.heap.size
  block : ∀ k,k < w.heap.size → k ≠ g → w'.heap[k]? = w.heap[k]?
theorem Turned1.go {g : Nat} {a b c : World} (h : Turned1 g a b) (k : Turned1 g b c) : Turned1 g a c := ⟨k.os.trans h.os,k.tape.trans h.tape,k.output.trans h.output,Nat.le_trans h.size k.size,fun i hi hne => (k.block i (Nat.lt_of_lt_of_le hi h.size) hne).trans (h.block i hi hne)⟩
theorem Turned1.of {g : Nat} {a b : World} (h : Below a.heap.size a b) : Turned1 g a b := ⟨h.os,h.tape,h.output,h.size,fun k hk _ => h.block k hk⟩
theorem Turned1.set {g : Nat} {a b : World} (h : Turned1 g a b) (o : Nat) (u : Value) : Turned1 g a (b.setCell ⟨g,o,none⟩ u) := h.go ⟨rfl,rfl,rfl,by simp [World.setCell],fun k _ hne => Below.heap_setCell b ⟨g,o,none⟩ u k hne⟩
theorem compact_any (sf : Nm × Nm → List UInt8) (w : World) (g cap : Nat) (l : List (Nm × Nm)) (h : RowU sf g cap l w) (hc : l.length ≤ cap) (hm : cap ≤ maxLen) (hl : l.length ≤ 40000000000) :
    Calls Tryz.prog 123 #[.slice (some ⟨g,0,none⟩) l.length cap] w fun e w' => e = .returned (.slice (some ⟨g,0,none⟩) (compactL l).length cap) ∧ RowU sf g cap (compactL l) w' ∧ Turned1 g w w' := by
  have HR := hide h
  have hg := h.lt
  clear h
  by_cases h2 : l.length < 2
  · have h2' : (l.length : Int) < 2 := by omega
    have HV := hide (show compactL l = l by
      rcases l with _ | ⟨x,_ | ⟨y,r⟩⟩
      · rfl
      · rfl
      · simp at h2; omega)
    go_enter Tryz.func123,Tryz.ntmps123
    go_wp2
    go_ret
    rw [HV.out]
    exact ⟨rfl,HR.out,Turned1.of (Below.refl _ _)⟩
  · have h2' : ¬ (l.length : Int) < 2 := by omega
    go_enter Tryz.func123,Tryz.ntmps123
    go_wp2
    go_loopg [3] (l.length - 1) (fun n i wr => ∃ k : Nat,1 ≤ k ∧ k ≤ l.length ∧ n + k = l.length ∧ i = .int .i64 k ∧ Hid (compactL (l.take k) = l.take k) ∧ Hid (Below w.heap.size w wr))
    case atStart => exact ⟨1,by omega,by omega,by omega,rfl,by show compactL _ = _; rcases l with _ | ⟨x,r⟩; rfl; rfl,Below.refl _ _⟩
    case round =>
      obtain ⟨k,hk1,hk2,hn,rfl,HP,HB⟩ := hrel
      have HRr := hide (HR.out.below HB.out)
      have hgr := HRr.out.lt
      by_cases hlt : k < l.length
      · have hlt' : (k : Int) < (l.length : Int) := by omega
        obtain ⟨c0,c1,c2⟩ := HRr.out.at k hlt
        obtain ⟨p,rfl⟩ : ∃ p,k = p + 1 := ⟨k - 1,by omega⟩
        obtain ⟨d0,d1,d2⟩ := HRr.out.at p (by omega)
        have heq := equal_use sf l[p + 1] l[p]
        have hgd := fun op a b => guard_use sf op a b l[p + 1] l[p]
        have hpi : IntKind.i64.wrap ((p : Int) + 1 - 1) = (p : Int) := by rw [wrap_id _ (by omega) (by omega)]; omega
        have HSt := hide (compactL_snoc (l.take (p + 1)) l[p + 1])
        have HLs := hide (compactL_last l p (by omega))
        have HTk := hide (List.take_succ_eq_append_getElem hlt)
        by_cases he : l[p + 1] = l[p]
        · rw [decide_eq_true he] at heq
          have HC1 := hide (show compactL (l.take (p + 1 + 1)) = l.take (p + 1) by rw [HTk.out,HSt.out,HP.out]; unfold cstep; rw [if_pos (by rw [← HP.out,HLs.out,he])])
          go_wp2_with fail
          go_quiet (fail)
          go_wp2
          have HB2 := hide (HB.out.trans ((drewN_below wr nq).mono HB.out.size))
          have HR2 := hide (HR.out.below HB2.out)
          clear c0 c1 c2 d0 d1 d2 heq hgd he HSt HLs
          generalize wr.drewN nq = wr2 at *
          go_loopg [3,5] (l.length - (p + 1) - 1) (fun n s3 s5 wx => ∃ (i : Nat) (P : List (Nm × Nm)),1 ≤ i ∧ n + i + (p + 1) = l.length ∧ s5 = .int .i64 i ∧ s3 = .int .i64 P.length ∧ P.length < p + 1 + i ∧ Hid (compactL (l.take (p + 1 + i)) = P) ∧ Hid (RowU sf g cap (over P l) wx) ∧ Hid (Turned1 g w wx))
          case atStart => exact ⟨1,l.take (p + 1),by omega,by omega,rfl,by rw [List.length_take,Nat.min_eq_left (by omega)],by rw [List.length_take]; omega,HC1.out,by show RowU _ _ _ _ _; rw [over_self l (p + 1) (by omega)]; exact HR2.out,Turned1.of HB2.out⟩
          case round =>
            obtain ⟨i,P,hi1,hni,rfl,rfl,hPl,HCp,HRx,HTx⟩ := hrel
            have hol := over_len (P := P) (l := l) (by omega)
            have hgx := HRx.out.lt
            obtain ⟨q,rfl⟩ : ∃ q,i = q + 1 := ⟨i - 1,by omega⟩
            by_cases hil : p + 1 + (q + 1) < l.length
            · have hil' : ((q + 1 : Nat) : Int) < ((l.length - (p + 1) : Nat) : Int) := by omega
              obtain ⟨c0,c1,c2⟩ := HRx.out.at (p + 1 + (q + 1)) (by omega)
              obtain ⟨d0,d1,d2⟩ := HRx.out.at (p + 1 + q) (by omega)
              have e1 : (over P l)[p + 1 + (q + 1)]'(by omega) = l[p + 1 + (q + 1)] := by
                have := over_at (P := P) (p + 1 + (q + 1)) hil (by omega)
                rw [List.getElem?_eq_getElem (by omega)] at this
                simpa using this
              have e2 : (over P l)[p + 1 + q]'(by omega) = l[p + 1 + q] := by
                have := over_at (P := P) (l := l) (p + 1 + q) (by omega) (by omega)
                rw [List.getElem?_eq_getElem (by omega)] at this
                simpa using this
              rw [e1,show (p + 1 + (q + 1)) * 3 = (p + 1) * 3 + (q + 1) * 3 by omega] at c0 c1 c2
              rw [e2,show (p + 1 + q) * 3 = (p + 1) * 3 + q * 3 by omega] at d0 d1 d2
              have heq := equal_use sf l[p + 1 + (q + 1)] l[p + 1 + q]
              have hgd := fun op a b => guard_use sf op a b l[p + 1 + (q + 1)] l[p + 1 + q]
              have hqi : IntKind.i64.wrap ((q : Int) + 1 - 1) = (q : Int) := by rw [wrap_id _ (by omega) (by omega)]; omega
              have HSt := hide (compactL_snoc (l.take (p + 1 + (q + 1))) l[p + 1 + (q + 1)])
              have HLs := hide (compactL_last l (p + 1 + q) (by omega))
              have HTk := hide (List.take_succ_eq_append_getElem hil)
              clear e1 e2
              by_cases he : l[p + 1 + (q + 1)] = l[p + 1 + q]
              · rw [decide_eq_true he] at heq
                have HC2 := hide (show compactL (l.take (p + 1 + (q + 1 + 1))) = P by
                  rw [show p + 1 + (q + 1 + 1) = p + 1 + (q + 1) + 1 by omega,HTk.out,HSt.out,HCp.out]
                  unfold cstep
                  have := HLs.out
                  rw [show p + 1 + q + 1 = p + 1 + (q + 1) by omega,HCp.out] at this
                  rw [if_pos (by rw [this,he])])
                go_wp2_with fail
                go_quiet (fail)
                go_wp2
                have HB3 := hide (drewN_below wr nq)
                go_roundg (gk - 1)
                case measure => omega
                case rel => exact ⟨q + 1 + 1,P,by omega,by omega,by first | rfl | go_num,rfl,by omega,HC2.out,HRx.out.below HB3.out,HTx.out.go (Turned1.of HB3.out)⟩
              · rw [decide_eq_false he] at heq
                have HC2 := hide (show compactL (l.take (p + 1 + (q + 1 + 1))) = P ++ [l[p + 1 + (q + 1)]] by
                  rw [show p + 1 + (q + 1 + 1) = p + 1 + (q + 1) + 1 by omega,HTk.out,HSt.out,HCp.out]
                  unfold cstep
                  have := HLs.out
                  rw [show p + 1 + q + 1 = p + 1 + (q + 1) by omega,HCp.out] at this
                  rw [if_neg (by rw [this]; intro e; exact he (by simpa using e.symm))])
                have hPn : P.length < l.length := by omega
                have hPn' : (P.length : Int) < (l.length : Int) := by omega
                obtain ⟨f0,f1,f2⟩ := HRx.out.at P.length (by omega)
                have ff := HRx.out.free
                have HSet := hide (fun (wy : World) (hy : RowU sf g cap (over P l) wy) => hy.set (by omega) P.length (by omega) l[p + 1 + (q + 1)])
                have HOs := hide (over_set hPn l[p + 1 + (q + 1)])
                go_wp2_with fail
                go_quiet (fail)
                go_wp2
                have HB3 := hide (drewN_below wr nq)
                go_roundg (gk - 1)
                case measure => omega
                case rel =>
                  refine ⟨q + 1 + 1,P ++ [l[p + 1 + (q + 1)]],by omega,by omega,by first | rfl | go_num,by first | rfl | (simp; done) | go_num,by simp; omega,HC2.out,?_,(((HTx.out.go (Turned1.of HB3.out)).set _ _).set _ _).set _ _⟩
                  show RowU _ _ _ _ _
                  rw [← HOs.out]
                  exact HSet.out _ (HRx.out.below HB3.out)
            · have hil' : ¬ ((q + 1 : Nat) : Int) < ((l.length - (p + 1) : Nat) : Int) := by omega
              have hPn : P.length < l.length := by omega
              have hPn2 : P.length ≤ l.length := by omega
              have HV := hide (show compactL l = P by have := HCp.out; rw [List.take_of_length_le (by omega)] at this; exact this)
              obtain ⟨cur,a1,a2,a3⟩ := HRx.out.blk
              have HA1 := hide a1
              have HA2 := hide a2
              have hzz : ∀ j,j < (l.length - P.length) * 3 → (wr.cell? ⟨g,P.length * 3 + j,none⟩).isSome = true := fun j hj => by
                have : l.length * 3 ≤ cap * 3 := Nat.mul_le_mul_right 3 hc
                rw [cell_block HA1.out,Array.getElem?_eq_getElem (by rw [HA2.out]; omega)]
                rfl
              have HZ := hide hzz
              have HF := hide HRx.out.free
              clear a1 a2 a3 hzz
              go_wp2_with (refine wpList_clearS _ rfl _ 152 rfl 185 (.agg #[.string ⟨#[]⟩,.string ⟨#[]⟩,.string ⟨#[]⟩]) Tryz.underlying152 Tryz.zeroValue185 ?_ g (P.length * 3) (l.length - P.length) (cap - P.length) ?_ rfl ?_ ?_ ?_)
              · first | rfl | (intro v hv; simp [Value.cells] at hv; subst hv; rfl)
              · omega
              · first | exact HZ.out | (simpa using HZ.out)
              · exact fun j _ => HF.out _
              · intro vs
                obtain ⟨cur',b1,b2,b3⟩ := block_setCells (w := wr) vs (P.length * 3) cur wr HA1.out
                have HRy := hide (show RowU sf g cap P (wr.setCells g (P.length * 3) vs) from ⟨cur',b1,b2.trans HA2.out,by
                  obtain ⟨cur2,q1,q2,q3⟩ := (HRx.out.take).blk
                  have e : cur2 = cur := by rw [HA1.out] at q1; simpa using q1.symm
                  subst e
                  rw [← q3]
                  apply List.ext_getElem?
                  intro i
                  rw [List.getElem?_take,List.getElem?_take]
                  split
                  · next hi => simpa using b3 i hi
                  · rfl⟩)
                have HTy := hide (show Turned1 g w (wr.setCells g (P.length * 3) vs) from HTx.out.go ⟨(setCells_other (b := g) (k := g + 1) (by omega) vs _ wr).2.2.1,(setCells_other (b := g) (k := g + 1) (by omega) vs _ wr).2.2.2.1,(setCells_other (b := g) (k := g + 1) (by omega) vs _ wr).2.2.2.2,by rw [(setCells_other (b := g) (k := g + 1) (by omega) vs _ wr).2.1]; exact Nat.le_refl _,fun k _ hne => (setCells_other hne vs _ wr).1⟩)
                clear b1 b2 b3
                generalize wr.setCells g (P.length * 3) vs = wz at *
                go_wp2
                go_ret
                rw [HV.out]
                exact ⟨rfl,HRy.out,HTy.out⟩
        · rw [decide_eq_false he] at heq
          have HC1 := hide (show compactL (l.take (p + 1 + 1)) = l.take (p + 1 + 1) by
            rw [HTk.out,HSt.out,HP.out]; unfold cstep; rw [if_neg (by rw [← HP.out,HLs.out]; intro e; exact he (by simpa using e.symm))])
          go_wp2_with fail
          go_quiet (fail)
          go_wp2
          have HB2 := hide (HB.out.trans ((drewN_below wr nq).mono HB.out.size))
          go_roundg (gk - 1)
          case measure => omega
          case rel => exact ⟨p + 1 + 1,by omega,by omega,by omega,by first | rfl | go_num,HC1.out,HB2.out⟩
      · have hke : k = l.length := by omega
        have HV := hide (show compactL l = l by have := HP.out; rw [List.take_of_length_le (by omega)] at this; exact this)
        have hlt' : ¬ (k : Int) < (l.length : Int) := by omega
        go_wp2
        go_ret
        rw [HV.out]
        exact ⟨rfl,HRr.out,Turned1.of HB.out⟩
end Go.Proofs.YtpmmjkiclngpmaaGreatDoor
