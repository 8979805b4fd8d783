/- YtpmmjkiclngpmaaGreatDoorV11 -/
import Derived.Test.YtpmmjkiclngpmaaGreatDoorB45
import Derived.Test.YtpmmjkiclngpmaaGreatDoorV03
import Derived.Test.YtpmmjkiclngpmaaGreatDoorV01
import Derived.Test.YtpmmjkiclngpmaaGreatDoorV02
import Derived.Deep.RegionHeld3
import Derived.Deep.DeepCutAuto
import Derived.Deep.QuietTactic
import Derived.BigQuiet
set_option maxRecDepth 100000
set_option linter.unusedSimpArgs false
set_option linter.unusedVariables false
set_option maxHeartbeats 12800000
namespace Go.Proofs.YtpmmjkiclngpmaaGreatDoor
open Go.RowKit
def RowT (t : TypeId) : Prop := t = 92 ∨ t = 132 ∨ t = 196 ∨ t = 87 ∨ t = 185 ∨ t = 95
def NoRow (w : World) (k : Nat) : Prop := ∀ c t fz,w.heap[k]? = some (.cells c t fz) → ¬ RowT t
theorem NoRow.cells {w : World} {k : Nat} {c : Array Value} {t : TypeId} {fz : Nat × Nat} (h : w.heap[k]? = some (.cells c t fz)) (ht : ¬ RowT t) : NoRow w k := fun c' t' fz' h' => by
  rw [h] at h'
  simp only [Option.some.injEq,Obj.cells.injEq] at h'
  rw [← h'.2.1]; exact ht
theorem CRow.sep {S S' : Nat → Prop} {w : World} {t : TypeId} {size : Nat} {v : Value} {n : Nat} {xs : List Value} (h : CRow S w t size v n xs) (ht : RowT t) (hk : ∀ k,S k → ¬ NoRow w k → S' k) : CRow S' w t size v n xs := by
  refine ⟨h.1,fun k e => hk k (h.2 k e) fun hs => ?_⟩
  rcases h.1.2 with ⟨hv,_⟩ | ⟨g,cap,cur,hv,hb0,hblk,rest⟩
  · rw [hv] at e; simp [Value.ownBlock] at e
  · rw [hv] at e; simp [Value.ownBlock] at e; subst e; exact hs _ _ _ hblk ht
theorem FnRow.sep {S S' : Nat → Prop} {w : World} {v : Value} {fs : List CF} (h : FnRow S w v fs) (hk : ∀ k,S k → ¬ NoRow w k → S' k) : FnRow S' w v fs := by
  obtain ⟨xs,a,b⟩ := h
  exact ⟨xs,a.sep (by unfold RowT; decide) hk,b.1,fun j hj => by obtain ⟨pv,kv,lv,q,r⟩ := b.2 j hj; exact ⟨pv,kv,lv,q,r.pr.sep (by unfold RowT; decide) hk,r.co.sep (by unfold RowT; decide) hk,r.ca.sep (by unfold RowT; decide) hk⟩⟩
theorem StAt.sep {w : World} {p : SP} {s : Sto} (h : StAt w p s) (ex : Nat → Prop) (hx : ∀ k,ex k → NoRow w k) : StAt w { p with ex := ex } s := by
  have hk : ∀ k,¬ p.out k → ¬ NoRow w k → ¬ SP.out { p with ex := ex } k := fun k h1 h2 ho => ho.elim (fun q => h1 (Or.inl q)) (fun q => h2 (hx k q))
  refine ⟨?_,h.mods,?_,h.comp,h.n1,h.n2,h.n3,h.few,h.small⟩
  · obtain ⟨ip,a,b⟩ := h.blk
    refine ⟨ip,a,?_⟩
    rcases hi : s.img with _ | fs
    · rw [hi] at b; exact b
    · rw [hi] at b
      obtain ⟨ib,fv,q1,q2,q3,q4⟩ := b
      exact ⟨ib,fv,q1,hk ib q2 fun hs => hs _ _ _ q3 (by unfold RowT; decide),q3,q4.sep hk⟩
  · obtain ⟨ov,a,b⟩ := h.objs
    refine ⟨ov,a,fun m hm o ho => ?_⟩
    obtain ⟨fv,uv,q1,q2,q3⟩ := b m hm o ho
    exact ⟨fv,uv,q1,q2.sep hk,q3.sep (by unfold RowT; decide) hk⟩
theorem StAt.less {w : World} {p : SP} {s : Sto} {ex : Nat → Prop} (h : StAt w { p with ex := ex } s) (hx : ∀ k,p.ex k → ex k) : StAt w p s := by
  have hk : ∀ k,¬ SP.out { p with ex := ex } k → k < w.heap.size → (¬ p.out k) ∧ w.heap[k]? = w.heap[k]? := fun k h1 _ => ⟨fun ho => h1 (ho.elim Or.inl fun q => Or.inr (hx k q)),rfl⟩
  refine ⟨?_,h.mods,?_,h.comp,h.n1,h.n2,h.n3,h.few,h.small⟩
  · obtain ⟨ip,a,b⟩ := h.blk; exact ⟨ip,a,b.keep hk⟩
  · obtain ⟨ov,a,b⟩ := h.objs; exact ⟨ov,a,fun m hm o ho => (b m hm o ho).keep hk⟩
theorem StAt.skip {w w' : World} {p : SP} {s : Sto} {X : Nat → Prop} (h : StAt w p s) (hx : ∀ k,X k → NoRow w k) (hd : ∀ k,p.own k → ¬ X k) (hno : ∀ k,¬ p.ex k) (hb : ButS X w w') : StAt w' p s := by
  have h1 : StAt w { p with ex := X } s := h.sep X hx
  have h2 : StAt w' { p with ex := X } s := h1.keepE (fun k hk => hd k hk) fun k hk hn => hb.block k hk hn
  exact h2.less fun k hk => absurd hk (hno k)
def nameF (k : Nat) : Nm := [102] ++ textB k
theorem name_fany (k : Nat) (w : World) (hk : k ≤ 1000) : Calls Tryz.prog 27 #[.int .i64 k] w fun e w' => e = .returned (.string ⟨(nameF k).toArray⟩) ∧ Below w.heap.size w w' := by
  have HT := hide (text_any k w (by omega))
  have hl := textB_len k
  have HE := hide (show nameF k = [102] ++ textB k from rfl)
  generalize textB k = t at *
  go_enter Tryz.func27,Tryz.ntmps27
  go_wp2_with fail
  refine HT.out.mono ?_
  rintro e w1 ⟨rfl,hb⟩
  have HB := hide hb
  clear hb
  go_wp2
  go_ret
  exact ⟨by rw [HE.out]; exact ret_strK (app_lists [102] t),HB.out⟩
end Go.Proofs.YtpmmjkiclngpmaaGreatDoor
namespace Go.Proofs.YtpmmjkiclngpmaaGreatDoor
open Go.RowKit
theorem four {i : Nat} (h : i < 4) : i = 0 ∨ i = 1 ∨ i = 2 ∨ i = 3 := by omega
end Go.Proofs.YtpmmjkiclngpmaaGreatDoor
namespace Go.Proofs.YtpmmjkiclngpmaaGreatDoor
open Go.RowKit
theorem dgCells_at : ∀ (l : List Dg) (j : Nat) (hj : j < l.length),(dgCells l)[j * 3]? = some (.string ⟨(l[j].name).toArray⟩) ∧ (dgCells l)[j * 3 + 1]? = some (.int .i64 (l[j].code : Int)) ∧ (dgCells l)[j * 3 + 2]? = some (.int .i64 (l[j].place : Int))
  | x :: r,0,_ => ⟨rfl,rfl,rfl⟩
  | x :: r,j + 1,hj => by
    have := dgCells_at r j (by simpa using hj)
    have e : dgCells (x :: r) = [.string ⟨x.name.toArray⟩,.int .i64 (x.code : Int),.int .i64 (x.place : Int)] ++ dgCells r := rfl
    rw [e,show (j + 1) * 3 = j * 3 + 3 by omega,List.getElem?_append_right (by simp),List.getElem?_append_right (by simp),List.getElem?_append_right (by simp)]
    simpa using this
end Go.Proofs.YtpmmjkiclngpmaaGreatDoor
namespace Go.Proofs.YtpmmjkiclngpmaaGreatDoor
open Go.RowKit
structure Fs (w : World) (D : Dp) (p : SP) (nb tb : Nat) : Prop where
  own : ∀ k,p.own k → w.heap.size ≤ k ∧ k ≠ nb ∧ k ≠ tb ∧ k ≠ D.xb
  ex : ∀ k,¬ p.ex k
  nl : w.heap.size ≤ nb
  tl : w.heap.size ≤ tb
  xl : w.heap.size ≤ D.xb
  nt : nb ≠ tb
  nx : nb ≠ D.xb
  tx : tb ≠ D.xb
  old : D.b < w.heap.size
section
variable {w : World} {D : Dp} {p : SP} {nb tb : Nat} {T : Nat → List UInt8} {s s' : Sto} {wr w' : World}
end
end Go.Proofs.YtpmmjkiclngpmaaGreatDoor
